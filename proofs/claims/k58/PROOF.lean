import PyProof.Rows.All
import Wide.All
import OpenK.AllK
import Wide.FinOn
import Lean
import PyProof.EqAt
import PyProof.EqKinds
import PyProof.TupleCall
import KE.KIsAll
import PyProof.DictItems
import KE.KPairComp
import KE.KSortTup
import KE.IntBitsLaws
import KE.KRevIter
import PySem.Challenge.RW_manycounts_k58_orders_refused
set_option Elab.async false
set_option linter.all false
set_option maxRecDepth 100000
set_option maxHeartbeats 4000000
namespace L2
open PySem PySem.Spec PyProof.Rows
abbrev Key := Sum Int Str
def keyIs : Key -> Value -> Bool
  | .inl k, v => Value.isInt k v
  | .inr x, v => Value.isStrOf x v
def keyH (w : World) : Key -> Int
  | .inl k => hashInt k
  | .inr x => hashStr w x
theorem keyIs_shape : ∀ {k : Key} {v : Value}, keyIs k v = true -> (∃ i t, k = Sum.inl i /\ v = Value.int i t) \/ (∃ x t, k = Sum.inr x /\ v = Value.str x t)
  | .inl i, v, h => by
    obtain ⟨t, e⟩ := Value.isInt_shape (k := i) (v := v) h
    exact .inl ⟨i, t, rfl, e⟩
  | .inr x, v, h => by
    obtain ⟨t, e⟩ := Value.isStrOf_shape (x := x) (v := v) h
    exact .inr ⟨x, t, rfl, e⟩
theorem keyIs_int (i : Int) (t : Tok) : keyIs (.inl i) (.int i t) = true := by simp [keyIs, Value.isInt]
theorem keyIs_str (x : Str) (t : Tok) : keyIs (.inr x) (.str x t) = true := by simp [keyIs, Value.isStrOf]
theorem key_ll (a b : Int) : decide ((Sum.inl a : Key) = Sum.inl b) = (a == b) := by
  by_cases e : a = b
  · subst e; simp
  · have h : ¬ (Sum.inl a : Key) = Sum.inl b := fun q => e (Sum.inl.inj q)
    rw [decide_eq_false h]
    exact (beq_eq_false_iff_ne.mpr e).symm
theorem key_rr (a b : Str) : decide ((Sum.inr a : Key) = Sum.inr b) = decide (a = b) := by
  by_cases e : a = b
  · subst e; simp
  · have h : ¬ (Sum.inr a : Key) = Sum.inr b := fun q => e (Sum.inr.inj q)
    rw [decide_eq_false h, decide_eq_false e]
theorem key_lr (a : Int) (b : Str) : decide ((Sum.inl a : Key) = Sum.inr b) = false := decide_eq_false (fun q => nomatch q)
theorem key_rl (a : Str) (b : Int) : decide ((Sum.inr a : Key) = Sum.inl b) = false := decide_eq_false (fun q => nomatch q)
def mixKind (prog : Program) (w : World) : PySem.KeyKind prog w Key where
  is := keyIs
  hash := keyH w
  inj := fun v a b ha hb => by
    rcases keyIs_shape ha with ⟨i, t, rfl, rfl⟩ | ⟨x, t, rfl, rfl⟩
    · rcases keyIs_shape hb with ⟨j, u, rfl, e⟩ | ⟨y, u, rfl, e⟩
      · injection e with e1 _; rw [e1]
      · exact nomatch e
    · rcases keyIs_shape hb with ⟨j, u, rfl, e⟩ | ⟨y, u, rfl, e⟩
      · exact nomatch e
      · injection e with e1 _; rw [e1]
  byValue := fun k v h => by
    rcases keyIs_shape h with ⟨i, t, rfl, rfl⟩ | ⟨x, t, rfl, rfl⟩ <;> rfl
  pyHash := fun hv h => by
    rcases keyIs_shape hv with ⟨i, t, rfl, rfl⟩ | ⟨x, t, rfl, rfl⟩
    · exact wpAny_pyHash_int h
    · exact wpAny_pyHash_str h
  eqBool := fun hu hv h => by
    rcases keyIs_shape hu with ⟨i, t, rfl, rfl⟩ | ⟨x, t, rfl, rfl⟩
    · rcases keyIs_shape hv with ⟨j, u, rfl, rfl⟩ | ⟨y, u, rfl, rfl⟩
      · rw [key_ll] at h; exact wpAny_eqBool_int h
      · rw [key_lr] at h; exact SeqAt.EqAt.int_str i t y u _ _ _ _ h
    · rcases keyIs_shape hv with ⟨j, u, rfl, rfl⟩ | ⟨y, u, rfl, rfl⟩
      · rw [key_rl] at h; exact SeqAt.EqAt.str_int x t j u _ _ _ _ h
      · rw [key_rr] at h; exact wpAny_eqBool_str h
  «strs» := fun k x t v h => by
    rcases keyIs_shape h with ⟨i, u, rfl, e⟩ | ⟨y, u, rfl, e⟩
    · exact nomatch e
    · injection e with e1 _
      subst e1
      cases v <;> rfl
theorem mixKind_int (prog : Program) (w : World) (i : Int) (t : Tok) : (mixKind prog w).is (.inl i) (.int i t) = true := keyIs_int i t
theorem mixKind_str (prog : Program) (w : World) (x : Str) (t : Tok) : (mixKind prog w).is (.inr x) (.str x t) = true := keyIs_str x t
inductive V where
  | non | bl (b : Bool) | int (i : Int) | str (x : Str) | byt (b : Array UInt8) | flt (b : UInt64) | ref (a : Addr) | ty (n : String)
  deriving DecidableEq
def RelV : V -> Value -> Prop
  | .non, u => u = Value.none
  | .bl b, u => u = Value.bool b
  | .int i, u => ∃ t, u = Value.int i t
  | .str x, u => ∃ t, u = Value.str x t
  | .byt b, u => ∃ t, u = Value.bytes b t
  | .flt b, u => ∃ t, u = Value.float b t
  | .ref a, u => u = Value.ref a
  | .ty n, u => u = Value.type n
abbrev Vals : List V -> List Value -> Prop := Paired RelV
theorem Vals.length {xs : List V} {us : List Value} (r : Vals xs us) : xs.length = us.length := Paired.length r
theorem Vals.get : ∀ {xs : List V} {us : List Value} {i : Nat} {x : V}, Vals xs us -> xs[i]? = some x -> ∃ u, us[i]? = some u /\ RelV x u
  | _, _, _, _, .nil, e => by simp at e
  | _, _, 0, _, .cons r _, e => by simp at e; subst e; exact ⟨_, rfl, r⟩
  | _, _, i + 1, x, .cons _ t, e => by
    obtain ⟨u, h1, h2⟩ := Vals.get (i := i) (x := x) t (by simpa using e)
    exact ⟨u, by simpa using h1, h2⟩
theorem Vals.append : ∀ {xs ys : List V} {us ws : List Value}, Vals xs us -> Vals ys ws -> Vals (xs ++ ys) (us ++ ws)
  | _, _, _, _, .nil, s => s
  | _, _, _, _, .cons r t, s => .cons r (Vals.append t s)
theorem Vals.take : ∀ {xs : List V} {us : List Value} (n : Nat), Vals xs us -> Vals (xs.take n) (us.take n)
  | _, _, 0, _ => .nil
  | _, _, _ + 1, .nil => .nil
  | _, _, n + 1, .cons r t => .cons r (Vals.take n t)
theorem Vals.drop : ∀ {xs : List V} {us : List Value} (n : Nat), Vals xs us -> Vals (xs.drop n) (us.drop n)
  | _, _, 0, r => r
  | _, _, _ + 1, .nil => .nil
  | _, _, n + 1, .cons _ t => Vals.drop n t
def RelO : Option V -> Option Value -> Prop
  | some v, some u => RelV v u
  | none, none => True
  | _, _ => False
def KV {κ : Type} : List (κ × V) -> List (κ × Value) -> Prop := Paired fun (p : κ × V) (q : κ × Value) => p.1 = q.1 /\ RelV p.2 q.2
def kV : Key -> V
  | .inl i => .int i
  | .inr x => .str x
inductive HO where
    | lst (xs : List V)
    | tup (xs : List V)
    | dK (kvs : List (Key × V)) | dT (kvs : List (List Key × V))
    | set (S : Int -> Bool) (n : Nat)
    | ins (C dx : Addr) (fs : List (Str × V))
    | own (x : Addr)
    | xd (fs : List (Str × V))
    | met (f x : Addr)
    | rng (lo hi : Int)
    | frz (o : Obj) (u : HO)
    | tbl (ps : Array Value)
    | ext (φ : Heap -> Prop)
abbrev Hp := Addr -> Option HO
def upd (H : Hp) (a : Addr) (o : HO) : Hp := fun b => if b = a then some o else H b
theorem upd_same {H : Hp} {a : Addr} {o : HO} : upd H a o a = some o := by unfold upd; rw [if_pos rfl]
theorem upd_ne {H : Hp} {a b : Addr} {o : HO} (h : b ≠ a) : upd H a o b = H b := by unfold upd; rw [if_neg h]
theorem ne_of {H : Hp} {a b : Addr} {o u : HO} (h : H a = some o) (h' : H b = some u) (d : o ≠ u) : a ≠ b := by
  intro e; subst e; rw [h] at h'; exact d (Option.some.inj h')
theorem ne_of_none {H : Hp} {a b : Addr} {o : HO} (h : H a = some o) (h' : H b = none) : a ≠ b := by
  intro e; subst e; rw [h] at h'; cases h'
section
variable (P : Program) (w : World)
def ObjOk (H : Hp) (h : Heap) (a : Addr) : HO -> Prop
  | .lst xs => xs.length <= sizeLine /\ ∃ (its : List Value) (n : Nat), Vals xs its /\ h.get? a = some { cls := .type "list", data := .seq its.toArray n }
  | .tup xs => xs.length <= sizeLine /\ ∃ its : List Value, Vals xs its /\ IsTup h a its.toArray
  | .dK kvs => kvs.length <= sizeLine /\ (a == sysModules) = false /\ ∃ vs, KV kvs vs /\ h.DictOf (mixKind P w) a vs
  | .dT kvs => kvs.length <= sizeLine /\ (a == sysModules) = false /\ ∃ xs : List (List Key × Addr × Value),
      Paired (fun (p : List Key × V) (q : List Key × Addr × Value) => p.1 = q.1 /\ H q.2.1 = some (.tup (p.1.map kV)) /\ RelV p.2 q.2.2) kvs xs /\
      ∃ o es ep, h.get? a = some o /\ o.ExactDict /\ o.data = .dict es ep /\ es.toList = xs.map (entryOfKey (tupleKind (mixKind P w))) /\ (xs.map (·.1)).Nodup
  | .set S n => h.SetOf (intKind P w) a S n
  | .ins C dx fs => H dx = some (.own a) /\ fs.length <= 1000 /\ dx ≠ a /\ h.get? a = some (PySem.W.instObj C dx) /\
      ∃ mA, h.Ns1 dx mA /\ (∀ f, RelO (fs.lookup f) (mA f)) /\ PySem.Within mA (fs.map (·.1))
  | .own _ => ∃ o, h.get? a = some o
  | .xd fs => ∃ mA, h.Ns1 a mA /\ ∀ f, RelO (fs.lookup f) (mA f)
  | .rng lo hi => ∃ t u v, h.get? a = some { cls := .type "range", data := .fields #[.int lo t, .int hi u, .int 1 v] }
  | .frz o u => h.get? a = some o /\ ObjOk H h a u
  | .tbl ps => h.get? a = some { cls := .none, data := .fields ps }
  | .met f x => h.get? a = some (PySem.W.methodObj (.ref f) (.ref x))
  | .ext φ => φ h /\ (∃ o, h.get? a = some o) /\ ∀ h1 h2 : Heap, φ h1 -> (∀ o, h1.get? a = some o -> h2.get? a = some o) -> φ h2
def HOk (H : Hp) (h : Heap) : Prop := ∀ a o, H a = some o -> ObjOk P w H h a o
end
section
variable {P : Program} {w : World} {H H' : Hp} {h h' : Heap} {a : Addr} {o : HO}
theorem ObjOk.lt (x : ObjOk P w H h a o) : a < h.objs.size := by
  cases o with
  | lst xs => obtain ⟨_, _, _, _, e⟩ := x; exact Heap.lt_size e
  | tup xs => obtain ⟨_, _, _, p⟩ := x; exact p.lt
  | dK kvs => obtain ⟨_, _, _, _, o, _, _, e, _⟩ := x; exact Heap.lt_size e
  | dT kvs => obtain ⟨_, _, _, _, o, _, _, e, _⟩ := x; exact Heap.lt_size e
  | set S n => obtain ⟨o, _, _, _, e, _⟩ := x; exact Heap.lt_size e
  | ins C dx fs => obtain ⟨_, _, _, e, _⟩ := x; exact Heap.lt_size e
  | own y => obtain ⟨_, e⟩ := x; exact Heap.lt_size e
  | xd fs => obtain ⟨_, ⟨_, _, _, e, _⟩, _⟩ := x; exact Heap.lt_size e
  | rng lo hi => obtain ⟨_, _, _, e⟩ := x; exact Heap.lt_size e
  | frz ob u => obtain ⟨e, _⟩ := x; exact Heap.lt_size e
  | tbl ps => exact Heap.lt_size (show h.get? a = some _ from x)
  | met f y => exact Heap.lt_size (show h.get? a = some _ from x)
  | ext φ => obtain ⟨_, ⟨_, e⟩, _⟩ := x; exact Heap.lt_size e
theorem Paired.mapP {α β : Type} {F G : α -> β -> Prop} : ∀ {l₁ : List α} {l₂ : List β}, Paired F l₁ l₂ -> (∀ a b, F a b -> G a b) -> Paired G l₁ l₂
  | _, _, .nil, _ => .nil
  | _, _, .cons r t, f => .cons (f _ _ r) (Paired.mapP t f)
theorem ObjOk.stay (x : ObjOk P w H h a o) (k : ∀ b u, (b = a \/ H b = some (.own a)) -> h.get? b = some u -> h'.get? b = some u)
    (ho : ∀ b, H b = some (.own a) -> H' b = some (.own a)) (ht : ∀ b xs, H b = some (.tup xs) -> H' b = some (.tup xs)) : ObjOk P w H' h' a o := by
  induction o with
  | lst xs => obtain ⟨z, its, n, r, e⟩ := x; exact ⟨z, its, n, r, k _ _ (.inl rfl) e⟩
  | tup xs => obtain ⟨z, its, r, ob, e, c⟩ := x; exact ⟨z, its, r, ob, k _ _ (.inl rfl) e, c⟩
  | dK kvs => obtain ⟨z, y, vs, r, ob, es, ep, e, c⟩ := x; exact ⟨z, y, vs, r, ob, es, ep, k _ _ (.inl rfl) e, c⟩
  | dT kvs =>
    obtain ⟨z, y, xs, r, ob, es, ep, e, c⟩ := x
    exact ⟨z, y, xs, Paired.mapP r fun p q z => ⟨z.1, ht _ _ z.2.1, z.2.2⟩, ob, es, ep, k _ _ (.inl rfl) e, c⟩
  | set S n => obtain ⟨ob, es, ep, t, e, c⟩ := x; exact ⟨ob, es, ep, t, k _ _ (.inl rfl) e, c⟩
  | ins C dx fs =>
    obtain ⟨d, z, ne, e, mA, ⟨od, es, ep, e2, c⟩, r⟩ := x
    exact ⟨ho _ d, z, ne, k _ _ (.inl rfl) e, mA, ⟨od, es, ep, k _ _ (.inr d) e2, c⟩, r⟩
  | own y => obtain ⟨ob, e⟩ := x; exact ⟨ob, k _ _ (.inl rfl) e⟩
  | xd fs => obtain ⟨mA, ⟨od, es, ep, e, c⟩, r⟩ := x; exact ⟨mA, ⟨od, es, ep, k _ _ (.inl rfl) e, c⟩, r⟩
  | rng lo hi => obtain ⟨t, u, v, e⟩ := x; exact ⟨t, u, v, k _ _ (.inl rfl) e⟩
  | frz ob u ih => obtain ⟨e, q⟩ := x; exact ⟨k _ _ (.inl rfl) e, ih q⟩
  | tbl ps =>
    have e : h.get? a = some { cls := .none, data := .fields ps } := x
    show h'.get? a = some { cls := .none, data := .fields ps }
    exact k a _ (.inl rfl) e
  | met f y =>
    have e : h.get? a = some (PySem.W.methodObj (.ref f) (.ref y)) := x
    show h'.get? a = some (PySem.W.methodObj (.ref f) (.ref y))
    exact k a _ (.inl rfl) e
  | ext φ => obtain ⟨p, ⟨o, e⟩, st⟩ := x; exact ⟨st _ _ p fun o q => k _ _ (.inl rfl) q, ⟨o, k _ _ (.inl rfl) e⟩, st⟩
theorem HOk.lt (x : HOk P w H h) (e : H a = some o) : a < h.objs.size := (x a o e).lt
theorem HOk.fresh (x : HOk P w H h) (e : h.objs.size <= a) : H a = none := by
  cases q : H a with
  | none => rfl
  | some u => exact absurd (Nat.lt_of_lt_of_le (x.lt q) e) (Nat.lt_irrefl _)
theorem HOk.kept (x : HOk P w H h) (k : ∀ b u, h.get? b = some u -> h'.get? b = some u) : HOk P w H h' := fun a o e =>
  (x a o e).stay (fun b u _ q => k b u q) (fun _ q => q) fun _ _ q => q
theorem HOk.laid (x : HOk P w H h) (k : ∀ b u, h.get? b = some u -> h'.get? b = some u) (hp : h.objs.size <= a) (new : ObjOk P w (upd H a o) h' a o) : HOk P w (upd H a o) h' := fun b u e => by
  have hn := x.fresh hp
  by_cases hb : b = a
  · subst hb; rw [upd_same] at e; cases e; exact new
  · rw [upd_ne hb] at e
    exact (x b u e).stay (fun c v _ q => k c v q) (fun c q => by rw [upd_ne (ne_of_none q hn)]; exact q) fun c xs q => by rw [upd_ne (ne_of_none q hn)]; exact q
end
def Rd (H : Hp) (a : Addr) (u : HO) : Prop := H a = some u \/ ∃ o, H a = some (.frz o u)
theorem Rd.ok {P : Program} {w : World} {H : Hp} {h : Heap} {a : Addr} {u : HO} (r : Rd H a u) (x : HOk P w H h) : ObjOk P w H h a u := by
  rcases r with r | ⟨o, r⟩
  · exact x a u r
  · obtain ⟨_, q⟩ := x a _ r
    exact q
def Mut : Option HO -> Prop
  | some (.lst _) => True
  | some (.dK _) => True
  | some (.dT _) => True
  | some (.set _ _) => True
  | some (.ins _ _ _) => True
  | some (.ext _) => True
  | _ => False
section
variable {P : Program} {w : World} {H : Hp} {h h' : Heap} {x e : Addr} {o' : HO}
theorem HOk.write (ok : HOk P w H h) (mu : Mut (H x)) (he : e = x \/ H e = some (.own x)) (k : ∀ b u, b ≠ e -> h.get? b = some u -> h'.get? b = some u) (heo : ∃ u, h'.get? e = some u)
    (new : ObjOk P w (upd H x o') h' x o') : HOk P w (upd H x o') h' := fun b u q => by
  have nown : ∀ c y, H c = some (.own y) -> c ≠ x := fun c y r z => by subst z; rw [r] at mu; exact mu
  have ntup : ∀ c xs, H c = some (.tup xs) -> c ≠ x := fun c xs r z => by subst z; rw [r] at mu; exact mu
  by_cases hb : b = x
  · subst hb; rw [upd_same] at q; cases q; exact new
  · rw [upd_ne hb] at q
    by_cases hbe : b = e
    · have q' : H b = some (.own x) := by
        rcases he with z | z
        · exact absurd (hbe.trans z) hb
        · rw [hbe]; exact z
      rw [q] at q'; cases q'
      obtain ⟨v, hv⟩ := heo
      exact ⟨v, by rw [hbe]; exact hv⟩
    · refine (ok b u q).stay (fun c v hc r => k c v ?_ r) (fun c r => by rw [upd_ne (nown c b r)]; exact r) fun c xs r => by rw [upd_ne (ntup c xs r)]; exact r
      rcases hc with rfl | hc
      · exact hbe
      · rintro rfl
        rcases he with z | z
        · exact nown c b hc z
        · rw [hc] at z; cases z; exact hb rfl
end
structure Un (fs ex : List Addr) (H H' : Hp) (h h' : Heap) : Prop where
  keep : ∀ b o, h.get? b = some o -> H b = none -> b ∉ fs -> b ∉ ex -> h'.get? b = some o
  slot : ∀ b o, h.get? b = some o -> H b = none -> b ∈ fs -> b ∉ ex -> ∃ sl, h'.get? b = some { o with slots := sl }
  free : ∀ b o, h.get? b = some o -> H b = none -> b ∉ ex -> H' b = none
  there : ∀ b o, h.get? b = some o -> b ∉ ex -> ∃ o', h'.get? b = some o'
  tups : ∀ b xs, H b = some (.tup xs) -> H' b = some (.tup xs)
  frzs : ∀ b o u, H b = some (.frz o u) -> H' b = some (.frz o u)
  tbls : ∀ b ps, H b = some (.tbl ps) -> ∃ more, H' b = some (.tbl (ps ++ more))
section
variable {fs fs' ex ex' : List Addr} {H H1 H2 : Hp} {h h1 h2 h' : Heap} {a x e : Addr} {o : HO}
theorem Un.any (u : Un fs ex H H1 h h1) {b : Addr} {ob : Obj} (q : h.get? b = some ob) (n : H b = none) (hx : b ∉ ex) : ∃ sl, h1.get? b = some { ob with slots := sl } := by
  by_cases hb : b ∈ fs
  · exact u.slot b ob q n hb hx
  · exact ⟨ob.slots, u.keep b ob q n hb hx⟩
theorem Un.kept (k : ∀ b u, h.get? b = some u -> h'.get? b = some u) : Un fs ex H H h h' :=
  ⟨fun b ob q _ _ _ => k b ob q, fun b ob q _ _ _ => ⟨ob.slots, k b ob q⟩, fun _ _ _ n _ => n, fun b ob q _ => ⟨ob, k b ob q⟩, fun _ _ q => q, fun _ _ _ q => q, fun _ ps q => ⟨#[], by rw [q]; simp⟩⟩
theorem Un.refl : Un fs ex H H h h := Un.kept fun _ _ q => q
theorem Un.laid (k : ∀ b u, h.get? b = some u -> h'.get? b = some u) (hp : h.objs.size <= a) (hn : H a = none) : Un fs ex H (upd H a o) h h' where
  keep := fun b u q _ _ _ => k b u q
  slot := fun b u q _ _ _ => ⟨u.slots, k b u q⟩
  free := fun b u q n _ => by rw [upd_ne (Nat.ne_of_lt (Nat.lt_of_lt_of_le (Heap.lt_size q) hp))]; exact n
  there := fun b u q _ => ⟨u, k b u q⟩
  tups := fun b xs q => by rw [upd_ne (ne_of_none q hn)]; exact q
  frzs := fun b u xs q => by rw [upd_ne (ne_of_none q hn)]; exact q
  tbls := fun b ps q => ⟨#[], by rw [upd_ne (ne_of_none q hn), q]; simp⟩
theorem Un.write (mu : Mut (H x)) (he : e = x \/ H e = some (.own x)) (k : ∀ b u, b ≠ e -> h.get? b = some u -> h'.get? b = some u) (heo : ∃ u, h'.get? e = some u) : Un fs ex H (upd H x o) h h' := by
  have hx : ∀ b, H b = none -> b ≠ x := fun b n z => by subst z; rw [n] at mu; exact mu
  have hb : ∀ b, H b = none -> b ≠ e := fun b n z => by
    subst z
    rcases he with r | r
    · exact hx b n r
    · rw [n] at r; cases r
  have hm : ∀ b u, H b = some u -> ¬ Mut (some u) -> b ≠ x := fun b u q nm z => by subst z; rw [q] at mu; exact nm mu
  refine ⟨fun b u q n _ _ => k b u (hb b n) q, fun b u q n _ _ => ⟨u.slots, k b u (hb b n) q⟩, fun b u q n _ => by rw [upd_ne (hx b n)]; exact n, fun b u q _ => ?_,
    fun b xs q => by rw [upd_ne (hm b _ q fun z => z)]; exact q, fun b u xs q => by rw [upd_ne (hm b _ q fun z => z)]; exact q, fun b ps q => ⟨#[], by rw [upd_ne (hm b _ q fun z => z), q]; simp⟩⟩
  by_cases hbe : b = e
  · subst hbe; exact heo
  · exact ⟨u, k b u hbe q⟩
end
def trk (h : Heap) (H : Hp) : List Addr := (List.range h.objs.size).filter fun a => (H a).isSome
def hidT (h : Heap) (H : Hp) : Heap := PySem.W.hideAll h (trk h H)
theorem hidT_size (h : Heap) (H : Hp) : (hidT h H).objs.size = h.objs.size := PySem.W.hideAll_size _ _
theorem hidT_get {h : Heap} {H : Hp} {b : Addr} {o : Obj} (e : h.get? b = some o) (n : H b = none) : (hidT h H).get? b = some o :=
  PySem.W.hideAll_get _ e fun hm => by
    have q : (H b).isSome = true := (List.mem_filter.mp hm).2
    rw [n] at q; simp at q
theorem of_hidT {h : Heap} {H : Hp} {b : Addr} {o : Obj} (e : (hidT h H).get? b = some o) : h.get? b = some o /\ H b = none := by
  have e' : h.get? b = some o := PySem.W.of_hideAll (trk h H) e
  refine ⟨e', ?_⟩
  cases q : H b with
  | none => rfl
  | some x =>
    have hm : b ∈ trk h H := List.mem_filter.mpr ⟨List.mem_range.mpr (Heap.lt_size e'), by simp [q]⟩
    have z : (hidT h H).get? b = none := PySem.W.hideAll_none (trk h H) hm
    rw [z] at e; cases e
def allNews (g h : Heap) (L : Addr) : List (Addr × Obj) := (List.range h.objs.size).filterMap fun a => if a = L \/ (g.get? a).isSome = true then none else (h.get? a).map fun o => (a, o)
def rest (g h : Heap) (L d : Addr) : List (Addr × Obj) := (allNews g h L).filter fun p => decide (p.1 ≠ d)
structure Mod (K : PySem.W.Frag) (mg : Str -> Option Value) (base : Heap) : Prop where
  kin : K.In base
  glob : base.Ns mainGlobals mg
  blt : ∃ mb, base.Ns builtinsNs mb /\ ∀ x : Str, x ≠ "__name__" -> mb x = bootBuiltins x
  nolimit : base.NoLimit
structure Cx where
  prog : Program
  w : World
  K : PySem.W.Frag
  mg : Str -> Option Value
  base : Heap
  A : Around
  N : List Str
  s₀ : Shared
  H₀ : Hp
  env : Env
  outer : List Env
  stack : List Env
  ex : List Addr
  fn : Str -> Bool
  calm : Bool
  pn : List (Addr × Obj)
  xe : Value -> Shared -> Prop
def frs (l : List Env) : List Addr := l.filterMap (·.frame)
abbrev Cx.fs (X : Cx) : List Addr := frs X.outer
def Vis (sc : Scope) (x : Str) : Prop := sc.names.lookup x = some .local \/ sc.names.lookup x = some .cell \/ sc.names.lookup x = some .free
def Loc (sc : Scope) (x : Str) : Prop := sc.names.lookup x = some .local \/ sc.names.lookup x = some .cell
def Look (env : Env) (h : Heap) (m : Str -> Option Value) (x : Str) (u : Value) : Prop :=
  (env.kindOf x = some .local /\ m x = some u) \/ ((env.kindOf x = some .cell \/ env.kindOf x = some .free) /\ ∃ c, env.cells.lookup x = some c /\ h.IsCell c (some u))
structure Cx.Ok (X : Cx) : Prop where
  mod : Mod X.K X.mg X.base
  kind : X.env.scope.kind = .function
  glob : X.env.globals = mainGlobals
  blt : X.env.builtins = builtinsNs
  above : X.s₀.heap.objs.size <= X.env.locals
  inj : ∀ x y c, X.env.cells.lookup x = some c -> X.env.cells.lookup y = some c -> x = y
  has : ∀ x, (X.env.kindOf x = some .cell \/ X.env.kindOf x = some .free) -> ∃ c, X.env.cells.lookup x = some c
  cab : ∀ x c, X.fn x = true -> X.env.cells.lookup x = some c -> X.s₀.heap.objs.size <= c
  hd : X.calm = true -> X.A.handled = none
  frames : X.A.frames = some X.stack
  stk : X.stack = X.outer \/ (X.stack = X.env :: X.outer /\ X.env.frame = some X.env.locals)
  exf : ∀ b ∈ X.ex, b ≠ X.env.locals /\ ∀ x c, X.env.cells.lookup x = some c -> c ≠ b
  bs : ∀ b o, X.base.get? b = some o -> X.s₀.heap.get? b = some o /\ X.H₀ b = none
  bsz : X.base.objs.size <= X.s₀.heap.objs.size
  noex : ∀ b o, X.base.get? b = some o -> b ∉ X.ex
  exfs : ∀ b ∈ X.ex, b ∉ X.fs
  funs : X.s₀.heap.FunFrames X.base X.outer
  frf : ∀ b ∈ X.fs, X.H₀ b = none
structure Inv (X : Cx) (pins : List (Addr × Obj)) (σ : List (Option V)) (H : Hp) (s : Shared) : Prop where
  ok : X.Ok
  os : s.os = X.s₀.os
  bare : AllBare s.gens
  base : Un X.fs X.ex X.H₀ H X.s₀.heap s.heap
  loc : ∃ m, s.heap.Ns X.env.locals m /\ ∀ (i : Nat) (x : Str) (v : V), X.N[i]? = some x -> σ[i]? = some (some v) -> Vis X.env.scope x -> ∃ u, RelV v u /\ Look X.env s.heap m x u
  cell : ∀ x c, X.env.cells.lookup x = some c -> ∃ v, s.heap.IsCell c v
  free : H X.env.locals = none
  freeC : ∀ x c, X.env.cells.lookup x = some c -> H c = none
  pin : ∀ p ∈ X.pn ++ pins, s.heap.get? p.1 = some p.2 /\ H p.1 = none /\ p.1 ≠ X.env.locals /\ p.1 ∉ X.fs /\ ∀ v, p.2.data ≠ .cell v
  hok : HOk X.prog X.w H s.heap
  len : σ.length = X.N.length
section
variable {X : Cx} {pins : List (Addr × Obj)} {σ : List (Option V)} {H H' : Hp} {s : Shared} {h' : Heap}
theorem Cx.Ok.nofr (ok : X.Ok) {b : Addr} {o : Obj} (e : X.base.get? b = some o) : b ∉ X.fs := fun hb => by
  have := (ok.funs.mem hb).1
  rw [e] at this; cases this
theorem Inv.bs (I : Inv X pins σ H s) : ∀ b o, X.base.get? b = some o -> s.heap.get? b = some o /\ H b = none := fun b o e =>
  ⟨I.base.keep b o (I.ok.bs b o e).1 (I.ok.bs b o e).2 (I.ok.nofr e) (I.ok.noex b o e), I.base.free b o (I.ok.bs b o e).1 (I.ok.bs b o e).2 (I.ok.noex b o e)⟩
theorem Inv.bk (I : Inv X pins σ H s) : ∀ b o, X.base.get? b = some o -> s.heap.get? b = some o := fun b o e => (I.bs b o e).1
theorem Inv.mod (I : Inv X pins σ H s) : Mod X.K X.mg X.base := I.ok.mod
theorem Inv.kIn (I : Inv X pins σ H s) : X.K.In s.heap := I.ok.mod.kin.keeps I.bk
theorem Inv.lt (I : Inv X pins σ H s) : X.env.locals < s.heap.objs.size := let ⟨_, hn, _⟩ := I.loc; hn.lt
theorem Inv.sz (I : Inv X pins σ H s) : X.s₀.heap.objs.size <= s.heap.objs.size := Nat.le_trans I.ok.above (Nat.le_of_lt I.lt)
theorem Inv.nofs (I : Inv X pins σ H s) {a : Addr} (h : s.heap.objs.size <= a) : a ∉ X.fs := fun hb => by
  obtain ⟨_, o, ho, _⟩ := I.ok.funs.mem hb
  exact absurd (Nat.lt_of_lt_of_le (Heap.lt_size ho) (Nat.le_trans I.sz h)) (Nat.lt_irrefl _)
theorem Inv.cne (I : Inv X pins σ H s) : ∀ x c, X.env.cells.lookup x = some c -> c ≠ X.env.locals := fun x c e z => by
  obtain ⟨v, o, ho, hd⟩ := I.cell x c e
  obtain ⟨m, ⟨o', es, ep, ho', hd', _⟩, _⟩ := I.loc
  rw [z, ho'] at ho; cases ho; rw [hd'] at hd; cases hd
theorem Inv.funs (I : Inv X pins σ H s) : s.heap.FunFrames X.base X.outer := by
  have all : ∀ (l : List Env), (∀ b ∈ frs l, b ∈ X.fs) -> X.s₀.heap.FunFrames X.base l -> s.heap.FunFrames X.base l := by
    intro l
    induction l with
    | nil => intro _ _; trivial
    | cons env r ih =>
      intro hs hl
      obtain ⟨hk, ⟨L, o, hf, hn, ho, hd⟩, hr⟩ := hl
      have hL : L ∈ X.fs := hs L (by unfold frs; rw [List.filterMap_cons, hf]; exact List.mem_cons_self)
      obtain ⟨sl, e⟩ := I.base.slot L o ho (I.ok.frf L hL) hL fun z => I.ok.exfs L z hL
      exact ⟨hk, ⟨L, _, hf, hn, e, hd⟩, ih (fun b hb => hs b (by unfold frs; rw [List.filterMap_cons, hf]; exact List.mem_cons_of_mem _ hb)) hr⟩
  exact all X.outer (fun _ hb => hb) I.ok.funs
theorem Inv.stack (I : Inv X pins σ H s) : s.heap.FunFrames X.base X.stack := by
  rcases I.ok.stk with e | ⟨e, hf⟩
  · rw [e]; exact I.funs
  · rw [e]
    obtain ⟨m, hn, _⟩ := I.loc
    refine .cons (by rw [I.ok.kind]; decide) hf hn ?_ I.funs
    exact Heap.get?_none_of_le (Nat.le_trans I.ok.bsz I.ok.above)
theorem Inv.stkSub (I : Inv X pins σ H s) : ∀ b ∈ frs X.stack, b ∈ X.env.locals :: X.fs := fun b hb => by
  rcases I.ok.stk with e | ⟨e, hf⟩
  · rw [e] at hb; exact List.mem_cons_of_mem _ hb
  · rw [e] at hb
    unfold frs at hb
    rw [List.filterMap_cons, hf] at hb
    exact hb
theorem Inv.stkFree (I : Inv X pins σ H s) : ∀ b ∈ frs X.stack, H b = none := fun b hb => by
  rcases List.mem_cons.mp (I.stkSub b hb) with e | hb
  · rw [e]; exact I.free
  · obtain ⟨_, o, ho, _⟩ := I.ok.funs.mem hb
    exact I.base.free b o ho (I.ok.frf b hb) fun z => I.ok.exfs b z hb
theorem Inv.step {g' : Array GenState} {t' : Nat} {d' : Drawn} {ch : List Addr} (I : Inv X pins σ H s)
    (hch : ∀ b ∈ ch, (b ∈ X.ex \/ X.s₀.heap.objs.size <= b) /\ b ≠ X.env.locals /\ (∀ x c, X.env.cells.lookup x = some c -> c ≠ b) /\ ∀ p ∈ X.pn ++ pins, p.1 ≠ b)
    (keep : ∀ b o, b ≠ X.env.locals -> b ∉ X.fs -> b ∉ ch -> s.heap.get? b = some o -> H b = none -> h'.get? b = some o)
    (slot : ∀ b o, b ≠ X.env.locals -> b ∈ X.fs -> b ∉ ch -> s.heap.get? b = some o -> H b = none -> ∃ sl, h'.get? b = some { o with slots := sl }) (free : ∀ b o, b ∉ ch -> s.heap.get? b = some o -> H b = none -> H' b = none)
    (there : ∀ b o, b ∉ ch -> s.heap.get? b = some o -> ∃ o', h'.get? b = some o')
    (tups : ∀ b xs, H b = some (.tup xs) -> H' b = some (.tup xs)) (frzs : ∀ b o u, H b = some (.frz o u) -> H' b = some (.frz o u)) (tbls : ∀ b ps, H b = some (.tbl ps) -> ∃ more, H' b = some (.tbl (ps ++ more)))
    (ns : ∀ m, s.heap.Ns X.env.locals m -> h'.Ns X.env.locals m) (hok : HOk X.prog X.w H' h') (hg : AllBare g') :
    Inv X pins σ H' { s with heap := h', gens := g', drawn := d', toks := t' } := by
  have neL : ∀ b o, X.s₀.heap.get? b = some o -> b ≠ X.env.locals := fun b o e => Nat.ne_of_lt (Nat.lt_of_lt_of_le (Heap.lt_size e) I.ok.above)
  have neC : ∀ b o, X.s₀.heap.get? b = some o -> b ∉ X.ex -> b ∉ ch := fun b o e hx hb => by
    rcases (hch b hb).1 with z | z
    · exact hx z
    · exact absurd (Nat.lt_of_lt_of_le (Heap.lt_size e) z) (Nat.lt_irrefl _)
  have cellK : ∀ x c, X.env.cells.lookup x = some c -> ∀ v, s.heap.IsCell c v -> h'.IsCell c v := fun x c e v ⟨o, ho, hd⟩ => by
    have nch : c ∉ ch := fun z => (hch c z).2.2.1 x c e rfl
    by_cases hc : c ∈ X.fs
    · obtain ⟨sl, q⟩ := slot c o (I.cne x c e) hc nch ho (I.freeC x c e)
      exact ⟨_, q, hd⟩
    · exact ⟨o, keep c o (I.cne x c e) hc nch ho (I.freeC x c e), hd⟩
  refine ⟨I.ok, I.os, hg, ⟨fun b o e n hb hx => ?_, fun b o e n hb hx => ?_, fun b o e n hx => ?_, fun b o e hx => ?_, fun b xs e => tups b xs (I.base.tups b xs e), fun b o xs e => frzs b o xs (I.base.frzs b o xs e), fun b ps e => ?_⟩, ?_, fun x c e => ?_, ?_, fun x c e => ?_, fun p hp => ?_, hok, I.len⟩
  · exact keep b o (neL b o e) hb (neC b o e hx) (I.base.keep b o e n hb hx) (I.base.free b o e n hx)
  · obtain ⟨sl, e1⟩ := I.base.slot b o e n hb hx
    obtain ⟨sl', e2⟩ := slot b _ (neL b o e) hb (neC b o e hx) e1 (I.base.free b o e n hx)
    exact ⟨sl', e2⟩
  · obtain ⟨o', e1⟩ := I.base.there b o e hx
    exact free b o' (neC b o e hx) e1 (I.base.free b o e n hx)
  · obtain ⟨o', e1⟩ := I.base.there b o e hx
    exact there b o' (neC b o e hx) e1
  · obtain ⟨m1, e1⟩ := I.base.tbls b ps e
    obtain ⟨m2, e2⟩ := tbls b _ e1
    exact ⟨m1 ++ m2, by rw [e2, Array.append_assoc]⟩
  · obtain ⟨m, hn, hl⟩ := I.loc
    refine ⟨m, ns m hn, fun i x v e1 e2 e3 => ?_⟩
    obtain ⟨u, r, l⟩ := hl i x v e1 e2 e3
    refine ⟨u, r, ?_⟩
    rcases l with l | ⟨k, c, e, z⟩
    · exact .inl l
    · exact .inr ⟨k, c, e, cellK x c e _ z⟩
  · obtain ⟨v, z⟩ := I.cell x c e
    exact ⟨v, cellK x c e v z⟩
  · obtain ⟨m, ⟨o, _, _, ho, _⟩, _⟩ := I.loc
    exact free _ o (fun z => (hch _ z).2.1 rfl) ho I.free
  · obtain ⟨v, o, ho, hd⟩ := I.cell x c e
    exact free c o (fun z => (hch c z).2.2.1 x c e rfl) ho (I.freeC x c e)
  · obtain ⟨e, n, ne, nf, d⟩ := I.pin p hp
    have nch : p.1 ∉ ch := fun z => (hch p.1 z).2.2.2 p hp rfl
    exact ⟨keep p.1 p.2 ne nf nch e n, free p.1 p.2 nch e n, ne, nf, d⟩
theorem Inv.un {t' : Nat} (I : Inv X pins σ H s) (u : Un X.fs [] H H' s.heap h') (hok : HOk X.prog X.w H' h') : Inv X pins σ H' { s with heap := h', toks := t' } := by
  obtain ⟨m, ⟨o, es, ep, ho, r⟩, _⟩ := id I.loc
  obtain ⟨sl, hL⟩ := u.any ho I.free (by simp)
  exact I.step (g' := s.gens) (d' := s.drawn) (ch := []) (fun _ z => nomatch z) (fun b o _ hb _ e n => u.keep b o e n hb (by simp)) (fun b o _ hb _ e n => u.slot b o e n hb (by simp)) (fun b o _ e n => u.free b o e n (by simp)) (fun b o _ e => u.there b o e (by simp)) u.tups u.frzs u.tbls (fun m' hm => by
    obtain ⟨o', es', ep', ho', r'⟩ := hm
    rw [ho] at ho'; cases ho'
    exact ⟨_, es', ep', hL, r'⟩) hok I.bare
theorem Inv.call {g' : Array GenState} {t' : Nat} {d' : Drawn} {ch : List Addr} (I : Inv X pins σ H s) (u : Un (frs X.stack) ch H H' s.heap h') (hok : HOk X.prog X.w H' h') (hg : AllBare g')
    (hch : ∀ b ∈ ch, (b ∈ X.ex \/ X.s₀.heap.objs.size <= b) /\ b ≠ X.env.locals /\ (∀ x c, X.env.cells.lookup x = some c -> c ≠ b) /\ ∀ p ∈ X.pn ++ pins, p.1 ≠ b) :
    Inv X pins σ H' { s with heap := h', gens := g', drawn := d', toks := t' } := by
  obtain ⟨m, ⟨o, es, ep, ho, r⟩, _⟩ := id I.loc
  obtain ⟨sl, hL⟩ := u.any ho I.free fun z => (hch _ z).2.1 rfl
  exact I.step (ch := ch) hch (fun b o hL hb hc e n => u.keep b o e n (fun z => (List.mem_cons.mp (I.stkSub b z)).elim hL hb) hc) (fun b o _ _ hc e n => u.any e n hc) (fun b o hc e n => u.free b o e n hc) (fun b o hc e => u.there b o e hc) u.tups u.frzs u.tbls (fun m' hm => by
    obtain ⟨o', es', ep', ho', r'⟩ := hm
    rw [ho] at ho'; cases ho'
    exact ⟨_, es', ep', hL, r'⟩) hok hg
theorem Inv.turned {t' : Nat} {it : Addr} (I : Inv X pins σ H s) (k : ∀ b o, b ≠ it -> s.heap.get? b = some o -> h'.get? b = some o) (hn : H it = none) (hL : it ≠ X.env.locals)
    (h1 : it ∈ X.ex \/ X.s₀.heap.objs.size <= it) (h2 : ∀ x c, X.env.cells.lookup x = some c -> c ≠ it) (h3 : ∀ p ∈ X.pn ++ pins, p.1 ≠ it) : Inv X pins σ H { s with heap := h', toks := t' } := by
  have nit : ∀ b u, H b = some u -> b ≠ it := fun b u e z => by rw [z, hn] at e; cases e
  refine I.step (g' := s.gens) (d' := s.drawn) (ch := [it]) (fun b hb => ?_) (fun b o _ _ hc e _ => k b o (fun z => hc (by simp [z])) e) (fun b o _ _ hc e _ => ⟨o.slots, k b o (fun z => hc (by simp [z])) e⟩) (fun _ _ _ _ n => n)
    (fun b o hc e => ⟨o, k b o (fun z => hc (by simp [z])) e⟩) (fun _ _ e => e) (fun _ _ _ e => e) (fun b ps e => ⟨#[], by rw [e]; simp⟩) (fun m hm => ?_) (fun b u e => ?_) I.bare
  · have e : b = it := by simpa using hb
    subst e
    exact ⟨h1, hL, h2, h3⟩
  · obtain ⟨o, es, ep, ho, r⟩ := hm
    exact ⟨o, es, ep, k _ o (Ne.symm hL) ho, r⟩
  · refine (I.hok b u e).stay (fun c v hc q => k c v ?_ q) (fun _ q => q) fun _ _ q => q
    rcases hc with z | z
    · rw [z]; exact nit b u e
    · exact nit c _ z
theorem Inv.tok (I : Inv X pins σ H s) (t : Nat) : Inv X pins σ H { s with toks := t } := I.un (h' := s.heap) (t' := t) Un.refl I.hok
theorem Inv.kept {t' : Nat} (I : Inv X pins σ H s) (k : ∀ b u, s.heap.get? b = some u -> h'.get? b = some u) : Inv X pins σ H { s with heap := h', toks := t' } := I.un (Un.kept k) (I.hok.kept k)
theorem Inv.laid {a : Addr} {o : HO} {t' : Nat} (I : Inv X pins σ H s) (k : ∀ b u, s.heap.get? b = some u -> h'.get? b = some u) (hp : s.heap.objs.size <= a) (new : ObjOk X.prog X.w (upd H a o) h' a o) :
    Inv X pins σ (upd H a o) { s with heap := h', toks := t' } := I.un (Un.laid k hp (I.hok.fresh hp)) (I.hok.laid k hp new)
theorem Inv.write {x e : Addr} {o : HO} {t' : Nat} (I : Inv X pins σ H s) (mu : Mut (H x)) (he : e = x \/ H e = some (.own x)) (k : ∀ b u, b ≠ e -> s.heap.get? b = some u -> h'.get? b = some u) (heo : ∃ u, h'.get? e = some u)
    (new : ObjOk X.prog X.w (upd H x o) h' x o) : Inv X pins σ (upd H x o) { s with heap := h', toks := t' } := I.un (Un.write mu he k heo) (I.hok.write mu he k heo new)
theorem Inv.pins_of {pins' : List (Addr × Obj)} (I : Inv X pins σ H s) (h : ∀ p ∈ pins', s.heap.get? p.1 = some p.2 /\ H p.1 = none /\ p.1 ≠ X.env.locals /\ p.1 ∉ X.fs /\ ∀ v, p.2.data ≠ .cell v) : Inv X pins' σ H s :=
  ⟨I.ok, I.os, I.bare, I.base, I.loc, I.cell, I.free, I.freeC, fun p hp => (List.mem_append.mp hp).elim (fun z => I.pin p (List.mem_append_left _ z)) (h p), I.hok, I.len⟩
theorem nodup_ix {N : List Str} (hN : N.Nodup) {i j : Nat} {x : Str} (a : N[i]? = some x) (b : N[j]? = some x) : i = j := by
  obtain ⟨h1, e1⟩ := List.getElem?_eq_some_iff.mp a
  obtain ⟨h2, e2⟩ := List.getElem?_eq_some_iff.mp b
  exact (List.getElem_inj hN).mp (e1.trans e2.symm)
theorem store_ok2 {M : Model} {A : Around} {E : Value -> Shared -> Prop} {i : Nat} {x : Str} {v : V} {u : Value} {Q : Unit -> Shared -> Prop} (I : Inv X pins σ H s) (hN : X.N.Nodup) (hi : X.N[i]? = some x) (hx : Loc X.env.scope x) (r : RelV v u)
    (h : ∀ s', Inv X pins (σ.set i (some v)) H s' -> (∃ a, Heap.SameBut a s.heap s'.heap /\ (a = X.env.locals \/ X.env.cells.lookup x = some a)) -> Q () s') (hf : X.fn x = true \/ X.env.scope.names.lookup x = some .local := by first | exact .inl rfl | exact .inr rfl | assumption) : wpAny M A (storeName X.env x u) Q E s := by
  obtain ⟨m, hn, hl⟩ := id I.loc
  have hcls : (X.env.scope.kind == .class || (X.env.scope.kind == .module && X.env.locals != X.env.globals)) = false := by rw [I.ok.kind]; rfl
  have hiσ : i < σ.length := by rw [I.len]; exact (List.getElem?_eq_some_iff.mp hi).1
  have cne := I.cne
  have tracked : ∀ {a : Addr} {h' : Heap}, (∃ o, s.heap.get? a = some o /\ H a = none) -> Heap.SameBut a s.heap h' -> HOk X.prog X.w H h' := fun {a h'} ha hs b ob e => by
    obtain ⟨_, _, hfree⟩ := ha
    refine (I.hok b ob e).stay (fun c w' hc q => (hs.2 c ?_).trans q) (fun _ q => q) fun _ _ q => q
    rintro rfl
    rcases hc with rfl | hc
    · rw [hfree] at e; cases e
    · rw [hfree] at hc; cases hc
  rcases hx with hk | hk
  · refine wpAny_storeName_local hk hn (fun h' hn' hs => ?_) hcls
    obtain ⟨oL, _, _, hoL, _⟩ := id hn
    refine h _ ⟨I.ok, I.os, I.bare, ⟨fun b o e n hb hx => ?_, fun b o e n hb hx => ?_, I.base.free, fun b o e hx => ?_, I.base.tups, I.base.frzs, I.base.tbls⟩, ⟨_, hn', fun j y v' e1 e2 e3 => ?_⟩, fun y c e => ?_, I.free, I.freeC, fun p hp => ?_, tracked ⟨oL, hoL, I.free⟩ hs, by simpa using I.len⟩ ⟨_, hs, .inl rfl⟩
    · exact (hs.2 b (Nat.ne_of_lt (Nat.lt_of_lt_of_le (Heap.lt_size e) I.ok.above))).trans (I.base.keep b o e n hb hx)
    · obtain ⟨sl, e1⟩ := I.base.slot b o e n hb hx
      exact ⟨sl, (hs.2 b (Nat.ne_of_lt (Nat.lt_of_lt_of_le (Heap.lt_size e) I.ok.above))).trans e1⟩
    · obtain ⟨o', e1⟩ := I.base.there b o e hx
      exact ⟨o', (hs.2 b (Nat.ne_of_lt (Nat.lt_of_lt_of_le (Heap.lt_size e) I.ok.above))).trans e1⟩
    · by_cases hj : j = i
      · subst hj
        rw [hi] at e1; cases e1
        rw [List.getElem?_set_self hiσ] at e2
        cases e2
        exact ⟨u, r, .inl ⟨hk, by simp⟩⟩
      · rw [List.getElem?_set_ne (Ne.symm hj)] at e2
        obtain ⟨u', r', q⟩ := hl j y v' e1 e2 e3
        refine ⟨u', r', ?_⟩
        rcases q with ⟨k, e⟩ | ⟨k, c, e, z⟩
        · refine .inl ⟨k, ?_⟩
          have : y ≠ x := fun e => hj (nodup_ix hN e1 (e ▸ hi))
          simp [this, e]
        · exact .inr ⟨k, c, e, z.sameBut hs (cne y c e)⟩
    · obtain ⟨w', z⟩ := I.cell y c e
      exact ⟨w', z.sameBut hs (cne y c e)⟩
    · obtain ⟨e, n, ne, nf, d⟩ := I.pin p hp
      exact ⟨(hs.2 p.1 ne).trans e, n, ne, nf, d⟩
  · have hfn : X.fn x = true := by
      rcases hf with z | z
      · exact z
      · rw [z] at hk; cases hk
    obtain ⟨c, hc⟩ := I.ok.has x (.inl hk)
    obtain ⟨w', z⟩ := I.cell x c hc
    refine wpAny_storeName_cell I.ok.kind hk hc z (fun h' hc' hs => ?_)
    obtain ⟨oc, hoc, hocd⟩ := id z
    refine h { s with heap := h' } ⟨I.ok, I.os, I.bare, ⟨fun b o e n hb hx => ?_, fun b o e n hb hx => ?_, I.base.free, fun b o e hx => ?_, I.base.tups, I.base.frzs, I.base.tbls⟩, ⟨m, hn.sameBut hs (Ne.symm (cne x c hc)), fun j y v' e1 e2 e3 => ?_⟩, fun y c' e => ?_, I.free, I.freeC, fun p hp => ?_, tracked ⟨oc, hoc, I.freeC x c hc⟩ hs, by simpa using I.len⟩ ⟨c, hs, .inr hc⟩
    · exact (hs.2 b (Nat.ne_of_lt (Nat.lt_of_lt_of_le (Heap.lt_size e) (I.ok.cab x c hfn hc)))).trans (I.base.keep b o e n hb hx)
    · obtain ⟨sl, e1⟩ := I.base.slot b o e n hb hx
      exact ⟨sl, (hs.2 b (Nat.ne_of_lt (Nat.lt_of_lt_of_le (Heap.lt_size e) (I.ok.cab x c hfn hc)))).trans e1⟩
    · obtain ⟨o', e1⟩ := I.base.there b o e hx
      exact ⟨o', (hs.2 b (Nat.ne_of_lt (Nat.lt_of_lt_of_le (Heap.lt_size e) (I.ok.cab x c hfn hc)))).trans e1⟩
    · by_cases hj : j = i
      · subst hj
        rw [hi] at e1; cases e1
        rw [List.getElem?_set_self hiσ] at e2
        cases e2
        exact ⟨u, r, .inr ⟨.inl hk, c, hc, hc'⟩⟩
      · rw [List.getElem?_set_ne (Ne.symm hj)] at e2
        obtain ⟨u', r', q⟩ := hl j y v' e1 e2 e3
        refine ⟨u', r', ?_⟩
        rcases q with q | ⟨k, c', e, z'⟩
        · exact .inl q
        · refine .inr ⟨k, c', e, z'.sameBut hs ?_⟩
          rintro rfl
          exact hj (nodup_ix hN e1 (I.ok.inj _ _ _ e hc ▸ hi))
    · by_cases hcc : c' = c
      · subst hcc; exact ⟨_, hc'⟩
      · obtain ⟨w2, z2⟩ := I.cell y c' e
        exact ⟨w2, z2.sameBut hs hcc⟩
    · obtain ⟨e, n, ne, nf, d⟩ := I.pin p hp
      refine ⟨(hs.2 p.1 ?_).trans e, n, ne, nf, d⟩
      intro q
      rw [q, hoc] at e
      have q' : oc = p.2 := Option.some.inj e
      exact d w' (by rw [<- q']; exact hocd)
theorem store_ok {M : Model} {A : Around} {E : Value -> Shared -> Prop} {i : Nat} {x : Str} {v : V} {u : Value} {Q : Unit -> Shared -> Prop} (I : Inv X pins σ H s) (hN : X.N.Nodup) (hi : X.N[i]? = some x) (hx : Loc X.env.scope x) (r : RelV v u)
    (h : ∀ s', Inv X pins (σ.set i (some v)) H s' -> Q () s') (hf : X.fn x = true \/ X.env.scope.names.lookup x = some .local := by first | exact .inl rfl | exact .inr rfl | assumption) : wpAny M A (storeName X.env x u) Q E s :=
  store_ok2 I hN hi hx r (fun s' I' _ => h s' I') hf
theorem Inv.call' {s' : Shared} {ch : List Addr} (I : Inv X pins σ H s) (ho : s'.os = s.os) (u : Un (frs X.stack) ch H H' s.heap s'.heap) (hok : HOk X.prog X.w H' s'.heap) (hg : AllBare s'.gens)
    (hch : ∀ b ∈ ch, (b ∈ X.ex \/ X.s₀.heap.objs.size <= b) /\ b ≠ X.env.locals /\ (∀ x c, X.env.cells.lookup x = some c -> c ≠ b) /\ ∀ p ∈ X.pn ++ pins, p.1 ≠ b) : Inv X pins σ H' s' := by
  obtain ⟨h', g', d', t', o'⟩ := s'
  have e : o' = s.os := ho
  subst e
  exact I.call (g' := g') (t' := t') (d' := d') u hok hg hch
end
abbrev XK := Value -> Option Addr -> Hp -> Prop
abbrev St := List (Option V)
abbrev VK := V -> Hp -> Prop
abbrev TE := St -> Hp -> VK -> Prop
abbrev TT := St -> Hp -> (Bool -> Hp -> Prop) -> Prop
abbrev TA := St -> Hp -> (List V -> Hp -> Prop) -> Prop
structure Ends where
  nx : St -> Hp -> Prop
  rt : VK
  bk : St -> Hp -> Prop := fun _ _ => False
  ct : St -> Hp -> Prop := fun _ _ => False
abbrev TS := Ends -> St -> Hp -> Prop
def EP (X : Cx) (pins : List (Addr × Obj)) (σ : St) (Q : VK) (u : Value) (s' : Shared) : Prop := ∃ v H', Inv X pins σ H' s' /\ RelV v u /\ Q v H'
def TP (X : Cx) (pins : List (Addr × Obj)) (σ : St) (Q : Bool -> Hp -> Prop) (b : Bool) (s' : Shared) : Prop := ∃ H', Inv X pins σ H' s' /\ Q b H'
def AP (X : Cx) (pins : List (Addr × Obj)) (σ : St) (Q : List V -> Hp -> Prop) (us : List Value) (s' : Shared) : Prop := ∃ vs H', Inv X pins σ H' s' /\ Vals vs us /\ Q vs H'
def SP (X : Cx) (pins : List (Addr × Obj)) (D : Ends) (f : Flow) (s' : Shared) : Prop :=
  match f with
  | .next => ∃ σ' H', Inv X pins σ' H' s' /\ D.nx σ' H'
  | .brk => ∃ σ' H', Inv X pins σ' H' s' /\ D.bk σ' H'
  | .cont => ∃ σ' H', Inv X pins σ' H' s' /\ D.ct σ' H'
  | .ret u => ∃ v σ' H', Inv X pins σ' H' s' /\ RelV v u /\ D.rt v H'
def PE (X : Cx) (e : Expr) (t : TE) : Prop :=
  ∀ (pins : List (Addr × Obj)) (s : Shared) (σ : St) (H : Hp) (Q : VK), Inv X pins σ H s -> t σ H Q -> wpAny (model X.prog X.w) X.A (eval e X.env) (EP X pins σ Q) X.xe s
def PT (X : Cx) (e : Expr) (t : TT) : Prop :=
  ∀ (pins : List (Addr × Obj)) (s : Shared) (σ : St) (H : Hp) (Q : Bool -> Hp -> Prop), Inv X pins σ H s -> t σ H Q -> wpAny (model X.prog X.w) X.A (isTrue e X.env (eval e X.env)) (TP X pins σ Q) X.xe s
def PW (X : Cx) (e : Expr) (t : TT) : Prop :=
  ∀ (whole : Sem Value) (pins : List (Addr × Obj)) (s : Shared) (σ : St) (H : Hp) (Q : Bool -> Hp -> Prop), Inv X pins σ H s -> t σ H Q -> wpAny (model X.prog X.w) X.A (isTrue e X.env whole) (TP X pins σ Q) X.xe s
theorem PW.pt {X : Cx} {e : Expr} {t : TT} (h : PW X e t) : PT X e t := h _
def PA (X : Cx) (es : List Expr) (t : TA) : Prop :=
  ∀ (pos : Pos) (pins : List (Addr × Obj)) (s : Shared) (σ : St) (H : Hp) (Q : List V -> Hp -> Prop), Inv X pins σ H s -> t σ H Q -> wpAny (model X.prog X.w) X.A (spliced (backTo pos (starEach es X.env))) (AP X pins σ Q) X.xe s
def PS (X : Cx) (st : Stmt) (t : TS) : Prop :=
  ∀ (pins : List (Addr × Obj)) (s : Shared) (σ : St) (H : Hp) (D : Ends), Inv X pins σ H s -> t D σ H -> wpAny (model X.prog X.w) X.A (exec st X.env) (SP X pins D) X.xe s
def PSs (X : Cx) (st : List Stmt) (t : TS) : Prop :=
  ∀ (pins : List (Addr × Obj)) (s : Shared) (σ : St) (H : Hp) (D : Ends), Inv X pins σ H s -> t D σ H -> wpAny (model X.prog X.w) X.A (execs st X.env) (SP X pins D) X.xe s
theorem thn {α : Type} {t : Sem α} {Q Q' : α -> Shared -> Prop} {M : Model} {A : Around} {E : Value -> Shared -> Prop} {s : Shared} (h : wpAny M A t Q E s) (hQ : ∀ a s, Q a s -> Q' a s) : wpAny M A t Q' E s := wpAny_mono h hQ fun _ _ x => x
section
variable {X : Cx}
def tVar (i : Nat) : TE := fun σ H Q => ∃ v, σ[i]? = some (some v) /\ Q v H
def tC (v : V) : TE := fun _ H Q => Q v H
theorem pe_var {i : Nat} {x : Str} {pos : Pos} (hN : X.N[i]? = some x) (hv : Vis X.env.scope x) (hd : (x == ("__debug__" : Str)) = false := by decide) (hcd : (x == ("__classdict__" : Str)) = false := by decide) : PE X (.Name x pos) (tVar i) := by
  intro pins s σ H Q I h
  obtain ⟨v, e, h⟩ := h
  obtain ⟨m, hn, hl⟩ := I.loc
  obtain ⟨u, r, l⟩ := hl i x v hN e hv
  have fin : EP X pins σ Q u s := ⟨v, H, I, r, h⟩
  rcases l with ⟨hk, hm⟩ | ⟨hk, c, hc, hcell⟩
  · exact wpAny_Name (wpAny_loadName_local I.ok.kind hk hn hm fin) hd
  · rcases hk with hk | hk
    · exact wpAny_Name (wpAny_loadName_cell I.ok.kind hk hc hcell fin) hd
    · exact wpAny_Name (wpAny_loadName_free I.ok.kind hk hc hcell fin hcd) hd
theorem pe_int {i j pos} : PE X (.Constant (.int i) j pos) (tC (.int i)) := fun _ _ _ H _ I h => wpAny_Constant_int ⟨.int i, H, I.tok _, ⟨_, rfl⟩, h⟩
theorem pe_bl {b j pos} : PE X (.Constant (.bool b) j pos) (tC (.bl b)) := fun _ _ _ H _ I h => Constant_bool ⟨.bl b, H, I, rfl, h⟩
theorem pe_non {j pos} : PE X (.Constant .none j pos) (tC .non) := fun _ _ _ H _ I h => Constant_none ⟨.non, H, I, rfl, h⟩
theorem pe_str {x j pos} : PE X (.Constant (.str x) j pos) (tC (.str x)) := fun _ _ _ H _ I h => Calls.Constant_str ⟨.str x, H, I.tok _, ⟨_, rfl⟩, h⟩
def Gl (X : Cx) (x : Str) : Prop := X.env.kindOf x = some .globalImplicit
theorem ld_glob {E : Value -> Shared -> Prop} {pins : List (Addr × Obj)} {s : Shared} {σ : St} {H : Hp} {x : Str} {u : Value} {pos : Pos} {Q : Value -> Shared -> Prop} (I : Inv X pins σ H s) (hg : Gl X x) (hm : X.mg x = some u) (h : Q u s)
    (hd : (x == ("__debug__" : Str)) = false := by decide) : wpAny (model X.prog X.w) X.A (eval (.Name x pos) X.env) Q E s :=
  Calls.Name_function_global I.ok.kind hg (Calls.loadGlobal_global (by rw [I.ok.glob]; exact I.mod.glob.keeps I.bk) hm h) hd
theorem ld_blt {E : Value -> Shared -> Prop} {pins : List (Addr × Obj)} {s : Shared} {σ : St} {H : Hp} {x : Str} {u : Value} {pos : Pos} {Q : Value -> Shared -> Prop} (I : Inv X pins σ H s) (hg : Gl X x) (hm : X.mg x = none) (hv : bootBuiltins x = some u) (h : Q u s)
    (hn : x ≠ "__name__" := by decide) (hd : (x == ("__debug__" : Str)) = false := by decide) : wpAny (model X.prog X.w) X.A (eval (.Name x pos) X.env) Q E s := by
  obtain ⟨mb, h1, h2⟩ := I.mod.blt
  exact Calls.Name_function_global I.ok.kind hg (Calls.loadGlobal_builtin (by rw [I.ok.glob]; exact I.mod.glob.keeps I.bk) hm (by rw [I.ok.blt]; exact h1.keeps I.bk) ((h2 x hn).trans hv) h) hd
theorem pe_glob {x : Str} {v : V} {u : Value} {pos : Pos} (hg : Gl X x) (hm : X.mg x = some u) (r : RelV v u) (hd : (x == ("__debug__" : Str)) = false := by decide) : PE X (.Name x pos) (tC v) :=
  fun _ _ _ H _ I h => ld_glob I hg hm ⟨v, H, I, r, h⟩ hd
theorem pe_bltn {x : Str} {v : V} {u : Value} {pos : Pos} (hg : Gl X x) (hm : X.mg x = none) (hv : bootBuiltins x = some u) (r : RelV v u) (hn : x ≠ "__name__" := by decide) (hd : (x == ("__debug__" : Str)) = false := by decide) : PE X (.Name x pos) (tC v) :=
  fun _ _ _ H _ I h => ld_blt I hg hm hv ⟨v, H, I, r, h⟩ hn hd
variable {a b : Expr} {ta tb : TE} {pos : Pos}
def tB (t : TE) : TT := fun σ H Q => t σ H fun x H1 => ∃ c, x = .bl c /\ Q c H1
theorem pt_val {e : Expr} {t : TE} (h : PE X e t) (he : ∀ whole, isTrue e X.env whole = (do let v <- whole; standAt e.pos; holding [v] (truthy v)) := by intro _; rfl) : PT X e (tB t) := by
  intro pins s σ H Q I hw
  refine isTrue_plain (thn (h pins s σ H _ I hw) fun v s1 ⟨x, H1, I1, r1, q1⟩ => ?_) (he _)
  obtain ⟨d, rfl, q⟩ := q1
  cases r1
  exact wpAny_truthy_bool ⟨H1, I1, q⟩
variable {tA tB' : TT} {rest : List Expr}
def tAnd (t u : TT) : TT := fun σ H Q => t σ H fun c H1 => if c = true then u σ H1 Q else Q false H1
def tOr (t u : TT) : TT := fun σ H Q => t σ H fun c H1 => if c = true then Q true H1 else u σ H1 Q
def tNot (t : TT) : TT := fun σ H Q => t σ H fun c H1 => Q (!c) H1
theorem pw_and1 (ha : PT X a tA) : PW X (.BoolOp .And [a] pos) tA := by
  intro wh pins s σ H Q I h
  refine isTrue_and (thn (ha pins s σ H Q I h) fun c s1 e => ?_)
  cases c with
  | true => exact isTrue_and_nil e
  | false => exact e
theorem pw_or1 (ha : PT X a tA) : PW X (.BoolOp .Or [a] pos) tA := by
  intro wh pins s σ H Q I h
  refine isTrue_or (thn (ha pins s σ H Q I h) fun c s1 e => ?_)
  cases c with
  | false => exact isTrue_or_nil e
  | true => exact e
theorem pw_and (ha : PT X a tA) (hb : PW X (.BoolOp .And (b :: rest) pos) tB') : PW X (.BoolOp .And (a :: b :: rest) pos) (tAnd tA tB') := by
  intro wh pins s σ H Q I h
  refine isTrue_and (thn (ha pins s σ H _ I h) fun c s1 ⟨H1, I1, q1⟩ => ?_)
  cases c with
  | true => exact hb wh pins s1 σ H1 Q I1 q1
  | false => exact ⟨H1, I1, q1⟩
theorem pw_or (ha : PT X a tA) (hb : PW X (.BoolOp .Or (b :: rest) pos) tB') : PW X (.BoolOp .Or (a :: b :: rest) pos) (tOr tA tB') := by
  intro wh pins s σ H Q I h
  refine isTrue_or (thn (ha pins s σ H _ I h) fun c s1 ⟨H1, I1, q1⟩ => ?_)
  cases c with
  | true => exact ⟨H1, I1, q1⟩
  | false => exact hb wh pins s1 σ H1 Q I1 q1
theorem pt_not (ha : PT X a tA) : PT X (.UnaryOp .Not a pos) (tNot tA) := by
  intro pins s σ H Q I h
  exact isTrue_not (ha pins s σ H (fun c H1 => Q (!c) H1) I h)
def tAndV (ta tb : TE) : TE := fun σ H Q => ta σ H fun x H1 => ∃ c, x = .bl c /\ if c = true then tb σ H1 Q else Q (.bl false) H1
def tNotV (ta : TE) : TE := fun σ H Q => ta σ H fun x H1 => ∃ c, x = .bl c /\ Q (.bl (!c)) H1
theorem pe_one {op} {t : TE} (h : PE X a t) : PE X (.BoolOp op [a] pos) t := fun pins s σ H Q I hw => BoolOp_one (h pins s σ H Q I hw)
theorem pe_and (ha : PE X a ta) (hb : PE X (.BoolOp .And (b :: rest) pos) tb) : PE X (.BoolOp .And (a :: b :: rest) pos) (tAndV ta tb) := by
  intro pins s σ H Q I h
  refine BoolOp_and (thn (ha pins s σ H _ I h) fun v s1 ⟨x, H1, I1, r1, q1⟩ => ?_)
  obtain ⟨c, rfl, q1⟩ := q1
  cases r1
  refine wpAny_truthy_bool ?_
  cases c with
  | true => exact hb pins s1 σ H1 Q I1 q1
  | false => exact ⟨.bl false, H1, I1, rfl, q1⟩
theorem pe_not (ha : PE X a ta) : PE X (.UnaryOp .Not a pos) (tNotV ta) := by
  intro pins s σ H Q I h
  refine UnaryOp_ (thn (ha pins s σ H _ I h) fun v s1 ⟨x, H1, I1, r1, q1⟩ => ?_)
  obtain ⟨c, rfl, q1⟩ := q1
  cases r1
  exact not_of (wpAny_truthy_bool ⟨.bl (!c), H1, I1, rfl, q1⟩)
def tIf (t : TT) (ta tb : TE) : TE := fun σ H Q => t σ H fun c H1 => if c = true then ta σ H1 Q else tb σ H1 Q
theorem pe_ifExp {c : Expr} (hc : PT X c tA) (ha : PE X a ta) (hb : PE X b tb) : PE X (.IfExp c a b pos) (tIf tA ta tb) := by
  intro pins s σ H Q I h
  refine wpAny_IfExp (thn (hc pins s σ H _ I h) fun d s1 ⟨H1, I1, q1⟩ => ?_)
  cases d with
  | true => exact ha pins s1 σ H1 Q I1 q1
  | false => exact hb pins s1 σ H1 Q I1 q1
end
def SqL (K : PySem.W.Frag) (H : Hp) (a : Addr) (xs : List V) : Prop :=
  Rd H a (.lst xs) \/
    ∃ (o : Obj) (its : Array Value) (n : Nat), K.lookup a = some o /\ o.cls = .type "list" /\ o.dict = none /\ o.data = .seq its n /\ its.size <= sizeLine /\ Vals xs its.toList
def SqT (K : PySem.W.Frag) (H : Hp) (a : Addr) (xs : List V) : Prop :=
  Rd H a (.tup xs) \/
    ∃ (o : Obj) (its : Array Value) (n : Nat), K.lookup a = some o /\ o.cls = .type "tuple" /\ o.data = .seq its n /\ its.size <= sizeLine /\ Vals xs its.toList
def absV : Value -> Option V
  | .none => some .non
  | .bool b => some (.bl b)
  | .int i _ => some (.int i)
  | .str x _ => some (.str x)
  | .bytes b _ => some (.byt b)
  | .float b _ => some (.flt b)
  | .ref a => some (.ref a)
  | .type n => some (.ty n)
  | _ => none
theorem RelV.abs {x : V} {u : Value} (r : RelV x u) : absV u = some x := by
  cases x with
  | non => cases r; rfl
  | bl _ => cases r; rfl
  | int _ => obtain ⟨t, rfl⟩ := r; rfl
  | str _ => obtain ⟨t, rfl⟩ := r; rfl
  | byt _ => obtain ⟨t, rfl⟩ := r; rfl
  | flt _ => obtain ⟨t, rfl⟩ := r; rfl
  | ref _ => cases r; rfl
  | ty _ => cases r; rfl
theorem RelV.inj {x y : V} {u : Value} (r : RelV x u) (q : RelV y u) : x = y := Option.some.inj (r.abs.symm.trans q.abs)
theorem Vals.inj : ∀ {xs ys : List V} {us : List Value}, Vals xs us -> Vals ys us -> xs = ys
  | _, _, _, .nil, .nil => rfl
  | _, _, _, .cons r t, .cons r' t' => by rw [r.inj r', Vals.inj t t']
section
variable {X : Cx} {pins : List (Addr × Obj)} {σ : St} {H : Hp} {s : Shared} {a : Addr} {xs ys : List V}
theorem SqL.of {K : PySem.W.Frag} (h : H a = some (.lst xs)) : SqL K H a xs := .inl (.inl h)
theorem SqT.of {K : PySem.W.Frag} (h : H a = some (.tup xs)) : SqT K H a xs := .inl (.inl h)
theorem Inv.list (I : Inv X pins σ H s) (h : SqL X.K H a xs) : ∃ its : List Value, Vals xs its /\ PlainL s.heap a its.toArray /\ xs.length <= sizeLine := by
  rcases h with h | ⟨o, its, n, hk, hc, hd, hs, hz, r⟩
  · obtain ⟨z, its, n, r, e⟩ := h.ok I.hok
    exact ⟨its, r, ⟨_, n, e, rfl, rfl, rfl⟩, z⟩
  · refine ⟨its.toList, r, ⟨o, n, I.kIn a o hk, hc, hd, by simpa using hs⟩, ?_⟩
    have e := r.length
    simp only [Array.length_toList] at e
    lia
theorem Inv.tuple (I : Inv X pins σ H s) (h : SqT X.K H a xs) : ∃ its : List Value, Vals xs its /\ IsTup s.heap a its.toArray /\ xs.length <= sizeLine := by
  rcases h with h | ⟨o, its, n, hk, hc, hs, hz, r⟩
  · obtain ⟨z, its, r, p⟩ := h.ok I.hok
    exact ⟨its, r, p, z⟩
  · refine ⟨its.toList, r, ⟨o, I.kIn a o hk, hc, n, by simpa using hs⟩, ?_⟩
    have e := r.length
    simp only [Array.length_toList] at e
    lia
theorem Inv.list_inj (I : Inv X pins σ H s) (h : SqL X.K H a xs) (h' : SqL X.K H a ys) : xs = ys := by
  obtain ⟨its, r, ⟨o, n, e, _, _, d⟩, _⟩ := I.list h
  obtain ⟨its', r', ⟨o', n', e', _, _, d'⟩, _⟩ := I.list h'
  rw [e] at e'; cases e'
  rw [d] at d'
  injection d' with d1 _
  have : its = its' := by simpa using congrArg Array.toList d1
  subst this
  exact r.inj r'
theorem Inv.tuple_inj (I : Inv X pins σ H s) (h : SqT X.K H a xs) (h' : SqT X.K H a ys) : xs = ys := by
  obtain ⟨its, r, ⟨o, e, _, n, d⟩, _⟩ := I.tuple h
  obtain ⟨its', r', ⟨o', e', _, n', d'⟩, _⟩ := I.tuple h'
  rw [e] at e'; cases e'
  rw [d] at d'
  injection d' with d1 _
  have : its = its' := by simpa using congrArg Array.toList d1
  subst this
  exact r.inj r'
end
abbrev Cx.wish (X : Cx) (E : Value -> Shared -> Prop) : Cx := { X with xe := E }
abbrev Cx.nox (X : Cx) : Cx := X.wish fun _ _ => False
theorem Cx.Ok.wish {X : Cx} (ok : X.Ok) (E : Value -> Shared -> Prop) : (X.wish E).Ok :=
  ⟨ok.mod, ok.kind, ok.glob, ok.blt, ok.above, ok.inj, ok.has, ok.cab, ok.hd, ok.frames, ok.stk, ok.exf, ok.bs, ok.bsz, ok.noex, ok.exfs, ok.funs, ok.frf⟩
theorem Cx.Ok.unwish {X : Cx} {E : Value -> Shared -> Prop} (ok : (X.wish E).Ok) : X.Ok :=
  ⟨ok.mod, ok.kind, ok.glob, ok.blt, ok.above, ok.inj, ok.has, ok.cab, ok.hd, ok.frames, ok.stk, ok.exf, ok.bs, ok.bsz, ok.noex, ok.exfs, ok.funs, ok.frf⟩
section
variable {X : Cx} {pins : List (Addr × Obj)} {σ : St} {H : Hp} {s : Shared} {E : Value -> Shared -> Prop}
theorem Inv.wish (I : Inv X pins σ H s) (E : Value -> Shared -> Prop) : Inv (X.wish E) pins σ H s := ⟨I.ok.wish E, I.os, I.bare, I.base, I.loc, I.cell, I.free, I.freeC, I.pin, I.hok, I.len⟩
theorem Inv.unwish (I : Inv (X.wish E) pins σ H s) : Inv X pins σ H s := ⟨I.ok.unwish, I.os, I.bare, I.base, I.loc, I.cell, I.free, I.freeC, I.pin, I.hok, I.len⟩
theorem SP.unwish {D : Ends} {f : Flow} {s' : Shared} (h : SP (X.wish E) pins D f s') : SP X pins D f s' := by
  cases f with
  | next => obtain ⟨σ', H', I, q⟩ := h; exact ⟨σ', H', I.unwish, q⟩
  | brk => obtain ⟨σ', H', I, q⟩ := h; exact ⟨σ', H', I.unwish, q⟩
  | cont => obtain ⟨σ', H', I, q⟩ := h; exact ⟨σ', H', I.unwish, q⟩
  | ret u => obtain ⟨v, σ', H', I, r, q⟩ := h; exact ⟨v, σ', H', I.unwish, r, q⟩
theorem PSs.nox {st : List Stmt} {t : TS} (h : PSs X.nox st t) : PSs X st t := fun pins s σ H D I hw =>
  wpAny_mono (h pins s σ H D (I.wish _) hw) (fun _ _ q => q.unwish) fun _ _ z => False.elim z
end
section
variable {X : Cx} {st : Stmt} {rest : List Stmt} {t u : TS} {e : Expr} {te : TE} {pos : Pos}
def tNext : TS := fun D σ H => D.nx σ H
def tSeq (t u : TS) : TS := fun D σ H => t { D with nx := u D } σ H
theorem pss_nil : PSs X [] tNext := fun _ _ σ H _ I h => wpAny_execs_nil ⟨σ, H, I, h⟩
theorem pss_cons (h1 : PS X st t) (h2 : PSs X rest u) : PSs X (st :: rest) (tSeq t u) := by
  intro pins s σ H D I h
  refine wpAny_execs_cons (thn (h1 pins s σ H { D with nx := u D } I h) fun f s1 q => ?_)
  cases f with
  | next =>
    obtain ⟨σ', H', I', q⟩ := q
    exact h2 pins s1 σ' H' D I' q
  | ret v => exact q
  | brk => exact q
  | cont => exact q
theorem pss_one (h1 : PS X st t) : PSs X [st] t := by
  intro pins s σ H D I h
  refine wpAny_execs_cons (thn (h1 pins s σ H D I h) fun f s1 q => ?_)
  cases f with
  | next => exact wpAny_execs_nil q
  | ret v => exact q
  | brk => exact q
  | cont => exact q
theorem Inv.quiet {pins : List (Addr × Obj)} {σ : St} {H : Hp} {s : Shared} (I : Inv X pins σ H s) : interactive X.env = false := by simp [interactive, I.ok.kind]
def tDrop (te : TE) : TS := fun D σ H => te σ H fun _ H1 => D.nx σ H1
theorem ps_expr (he : PE X e te) (hs : swapsWith e none pos.line X.env = pure false := by rfl) : PS X (.Expr e pos) (tDrop te) := by
  intro pins s σ H D I h
  exact wpAny_Expr_any (thn (he pins s σ H _ I h) fun v s1 ⟨x, H1, I1, r1, q1⟩ => ⟨σ, H1, I1, q1⟩) I.quiet hs
def tRet (te : TE) : TS := fun D σ H => te σ H D.rt
theorem ps_ret (he : PE X e te) : PS X (.Return (some e) pos) (tRet te) := by
  intro pins s σ H D I h
  exact wpAny_Return_some (thn (he pins s σ H _ I h) fun v s1 ⟨x, H1, I1, r1, q1⟩ => ⟨x, σ, H1, I1, r1, q1⟩)
def tIfS (c : TT) (t u : TS) : TS := fun D σ H => c σ H fun b H1 => if b = true then t D σ H1 else u D σ H1
theorem ps_if {c : Expr} {a b : List Stmt} {tc : TT} (hc : PT X c tc) (ha : PSs X a t) (hb : PSs X b u) : PS X (.If c a b pos) (tIfS tc t u) := by
  intro pins s σ H D I h
  refine wpAny_If (thn (hc pins s σ H _ I h) fun d s1 ⟨H1, I1, q1⟩ => ?_)
  cases d with
  | true => exact ha pins s1 σ H1 D I1 q1
  | false => exact hb pins s1 σ H1 D I1 q1
def tNever : TS := fun _ _ _ => False
theorem pss_never {sts : List Stmt} : PSs X sts tNever := fun _ _ _ _ _ _ h => h.elim
end
abbrev TG := V -> St -> Hp -> (St -> Hp -> Prop) -> Prop
abbrev TGs := List V -> St -> Hp -> (St -> Hp -> Prop) -> Prop
def PG (X : Cx) (target : Expr) (t : TG) : Prop :=
  ∀ (pins : List (Addr × Obj)) (s : Shared) (σ : St) (H : Hp) (v : V) (u : Value) (Q : St -> Hp -> Prop), Inv X pins σ H s -> RelV v u -> t v σ H Q ->
    wpAny (model X.prog X.w) X.A (assign target X.env u) (fun _ s' => ∃ σ' H', Inv X pins σ' H' s' /\ Q σ' H') X.xe s
def PGs (X : Cx) (ts : List Expr) (t : TGs) : Prop :=
  ∀ (pins : List (Addr × Obj)) (s : Shared) (σ : St) (H : Hp) (vs : List V) (us : List Value) (Q : St -> Hp -> Prop), Inv X pins σ H s -> Vals vs us -> t vs σ H Q ->
    wpAny (model X.prog X.w) X.A (assignInOrder ((assignEach ts X.env).map (·.2)) us) (fun _ s' => ∃ σ' H', Inv X pins σ' H' s' /\ Q σ' H') X.xe s
section
variable {X : Cx} {pos : Pos}
def gName (i : Nat) : TG := fun v σ H Q => Q (σ.set i (some v)) H
theorem pg_name {i : Nat} {x : Str} (hN : X.N.Nodup) (hi : X.N[i]? = some x) (hx : Loc X.env.scope x) (hf : X.fn x = true \/ X.env.scope.names.lookup x = some .local := by first | exact .inl rfl | exact .inr rfl | assumption) : PG X (.Name x pos) (gName i) := by
  intro pins s σ H v u Q I r h
  exact wpAny_assign_Name (store_ok I hN hi hx r (fun s' I' => ⟨_, H, I', h⟩) hf)
def gNil : TGs := fun vs σ H Q => vs = [] /\ Q σ H
def gCons (t : TG) (u : TGs) : TGs := fun vs σ H Q => ∃ v r, vs = v :: r /\ t v σ H fun σ' H' => u r σ' H' Q
theorem pgs_nil : PGs X [] gNil := by
  intro pins s σ H vs us Q I r h
  obtain ⟨e, h⟩ := h
  subst e
  cases r
  exact assignInOrder_nil ⟨σ, H, I, h⟩
theorem pgs_cons {e : Expr} {es : List Expr} {t : TG} {u : TGs} (h1 : PG X e t) (h2 : PGs X es u)
    (hs : (assignEach (e :: es) X.env).map (·.2) = assign e X.env :: (assignEach es X.env).map (·.2) := by rfl) : PGs X (e :: es) (gCons t u) := by
  intro pins s σ H vs us Q I r h
  obtain ⟨v, vr, e1, h⟩ := h
  subst e1
  cases r with
  | cons r rr =>
    rw [hs]
    refine assignInOrder_cons (thn (h1 pins s σ H _ _ _ I r h) fun _ s1 ⟨σ1, H1, I1, q1⟩ => ?_)
    exact h2 pins s1 σ1 H1 _ _ Q I1 rr q1
def gTup (K : PySem.W.Frag) (n : Nat) (t : TGs) : TG := fun v σ H Q => ∃ a xs, v = .ref a /\ SqT K H a xs /\ xs.length = n /\ t xs σ H Q
theorem pg_tup {es : List Expr} {k : Nat} {t : TGs} {n : Nat} (hc : X.calm = true) (h : PGs X es t)
    (hn : (assignEach es X.env).length = n := by rfl) (hst : (assignEach es X.env).findIdx? (·.1) = none := by rfl) : PG X (.Tuple es k pos) (gTup X.K n t) := by
  intro pins s σ H v u Q I r hw
  obtain ⟨a, xs, e1, hq, hl, hw⟩ := hw
  subst e1
  cases r
  obtain ⟨its, rv, ht, hz⟩ := I.tuple hq
  refine assign_Tuple_tuple (I.ok.hd hc) ht (by simp [hn, <- hl, rv.length]) hst fun h' hx => ?_
  have I1 : Inv X pins σ H { s with heap := h' } := I.kept (t' := s.toks) fun b o e => hx b o (Nat.ne_of_lt (Heap.lt_size e)) e
  exact h pins _ σ H xs _ Q I1 (by simpa using rv) hw
def tAsg (te : TE) (g : TG) : TS := fun D σ H => te σ H fun x H1 => g x σ H1 D.nx
theorem ps_asg {tg e : Expr} {te : TE} {g : TG} (he : PE X e te) (hg : PG X tg g) (hs : swapsWithSole [tg] e pos.line X.env = pure false := by rfl) (hw : swappedStores [tg] e X.env = pure none := by rfl)
    (h1 : (assignEach [tg] X.env).map (·.2) = [assign tg X.env] := by rfl) : PS X (.Assign [tg] e pos) (tAsg te g) := by
  intro pins s σ H D I h
  refine wpAny_Assign_stores (thn (he pins s σ H _ I h) fun v s1 ⟨x, H1, I1, r1, q1⟩ => ?_) hs hw
  rw [h1]
  exact thn (hg pins s1 σ H1 x v _ I1 r1 q1) fun _ s2 q => q
theorem ps_set {i : Nat} {x : Str} {e : Expr} {te : TE} {pos' : Pos} (hN : X.N.Nodup) (hi : X.N[i]? = some x) (hx : Loc X.env.scope x) (he : PE X e te) (hs : swapsWith e (some (.Name x pos')) pos.line X.env = pure false := by rfl) (hf : X.fn x = true \/ X.env.scope.names.lookup x = some .local := by first | exact .inl rfl | exact .inr rfl | assumption) :
    PS X (.Assign [.Name x pos'] e pos) (tAsg te (gName i)) := by
  intro pins s σ H D I h
  refine wpAny_Assign_Name (thn (he pins s σ H _ I h) fun v s1 ⟨y, H1, I1, r1, q1⟩ => ?_) hs
  exact store_ok I1 hN hi hx r1 (fun s2 I2 => ⟨_, H1, I2, q1⟩) hf
def tWhile (c : TT) (tb : TS) : TS := fun D σ H => ∃ W : Nat -> St -> Hp -> Prop, (∃ m, W m σ H) /\ ∀ m σ H, W m σ H ->
  c σ H fun b H1 => if b = true then ∃ N : St -> Hp -> Prop, (∀ σ' H', N σ' H' -> ∃ m', m' < m /\ W m' σ' H') /\ tb { D with nx := N, ct := N, bk := D.nx } σ H1 else D.nx σ H1
theorem ps_while {c : Expr} {body : List Stmt} {tc : TT} {tb : TS} (hp : PassesOwn (model X.prog X.w) X.A X.env X.xe) (hc : PT X c tc) (hb : PSs X body tb) : PS X (.While c body [] pos) (tWhile tc tb) := by
  intro pins s σ H D I h
  obtain ⟨W, ⟨m0, w0⟩, turn⟩ := h
  refine wpAny_While (codeAny_whileLoop (fun n s' => ∃ σ' H', Inv X pins σ' H' s' /\ W n σ' H') ?_ m0 ⟨σ, H, I, w0⟩)
  rintro n s1 ⟨σ1, H1, I1, w1⟩
  refine wpAny_passesOwn hp (thn (hc pins s1 σ1 H1 _ I1 (turn n σ1 H1 w1)) fun b s2 ⟨H2, I2, q2⟩ => ?_)
  cases b with
  | true =>
    obtain ⟨N, hN, q2⟩ := q2
    rw [if_pos rfl]
    refine wpAny_passesOwn hp (thn (hb pins s2 σ1 H2 _ I2 q2) fun f s3 q3 => ?_)
    cases f with
    | next =>
      obtain ⟨σ3, H3, I3, n3⟩ := q3
      obtain ⟨m', hm, w3⟩ := hN σ3 H3 n3
      exact ⟨m', hm, σ3, H3, I3, w3⟩
    | cont =>
      obtain ⟨σ3, H3, I3, n3⟩ := q3
      obtain ⟨m', hm, w3⟩ := hN σ3 H3 n3
      exact ⟨m', hm, σ3, H3, I3, w3⟩
    | brk => exact q3
    | ret v => exact q3
  | false =>
    rw [if_neg Bool.false_ne_true]
    exact wpAny_execs_nil ⟨σ1, H2, I2, q2⟩
end
structure It where
  go : Nat -> Hp -> Prop
  yld : Nat -> Hp -> V -> Hp -> Prop
  stop : Nat -> Hp -> Prop
def FpOk (X : Cx) (pins : List (Addr × Obj)) (H : Hp) (b : Addr) : Prop :=
  H b = none /\ b ≠ X.env.locals /\ b ∉ X.fs /\ (b ∈ X.ex \/ X.s₀.heap.objs.size <= b) /\ (∀ x c, X.env.cells.lookup x = some c -> c ≠ b) /\ ∀ p ∈ X.pn ++ pins, p.1 ≠ b
theorem Inv.fpOk {X : Cx} {pins : List (Addr × Obj)} {σ : St} {H H' : Hp} {s : Shared} {b : Addr} (I : Inv X pins σ H s) (hb : s.heap.objs.size <= b) (hn : H' b = none) : FpOk X pins H' b := by
  refine ⟨hn, Nat.ne_of_gt (Nat.lt_of_lt_of_le I.lt hb), I.nofs hb, .inr (Nat.le_trans I.sz hb), fun x c e z => ?_, fun p hp z => ?_⟩
  · obtain ⟨v, q⟩ := I.cell x c e
    exact absurd (Nat.lt_of_lt_of_le q.lt (by rw [z]; exact hb)) (Nat.lt_irrefl _)
  · exact absurd (Nat.lt_of_lt_of_le (Heap.lt_size (I.pin p hp).1) (by rw [z]; exact hb)) (Nat.lt_irrefl _)
structure Turn (P : Program) (w : World) (K : PySem.W.Frag) (tg : Expr) (J : It) (fp : List Addr) (it : Addr) (tn : Nat -> Heap -> Prop) : Prop where
  mem : it ∈ fp
  obj : ∀ i h, tn i h -> ∀ b ∈ fp, ∃ o, h.get? b = some o /\ ∀ v, o.data ≠ .cell v
  keep : ∀ i h h', tn i h -> (∀ b ∈ fp, ∀ o, h.get? b = some o -> h'.get? b = some o) -> tn i h'
  item : ∀ (X : Cx), X.prog = P -> X.w = w -> X.K = K -> X.calm = true -> ∀ (i : Nat) (pins : List (Addr × Obj)) (s : Shared) (σ : St) (H : Hp) (E : Value -> Shared -> Prop), Inv X pins σ H s -> (∀ b ∈ fp, FpOk X pins H b) -> tn i s.heap -> J.go i H ->
    wpAny (model P w) X.A (pyNext (.ref it)) (fun r s1 => ∃ u, r = some u /\
      wpAny (model P w) X.A (letOwnedTupleGo tg (.ref it) u) (fun _ s2 => ∃ x H', Inv X pins σ H' s2 /\ RelV x u /\ J.yld i H x H' /\ tn (i + 1) s2.heap /\ ∀ b ∈ fp, H' b = none) E s1) E s
  done : ∀ (X : Cx), X.prog = P -> X.w = w -> X.K = K -> X.calm = true -> ∀ (i : Nat) (pins : List (Addr × Obj)) (s : Shared) (σ : St) (H : Hp) (E : Value -> Shared -> Prop), Inv X pins σ H s -> (∀ b ∈ fp, FpOk X pins H b) -> tn i s.heap -> J.stop i H ->
    wpAny (model P w) X.A (pyNext (.ref it)) (fun r s1 => r = none /\ Inv X pins σ H s1) E s
  self : ∀ (A : Around) (i : Nat) (s : Shared) (Q : Value -> Shared -> Prop) (E : Value -> Shared -> Prop), tn i s.heap -> Q (.ref it) s -> wpAny (model P w) A (pyIter (.ref it)) Q E s
abbrev TI := St -> Hp -> (It -> Hp -> Prop) -> Prop
def PIE (X : Cx) (pins : List (Addr × Obj)) (σ : St) (tg : Expr) (R : It -> Hp -> Prop) (itv : Value) (s2 : Shared) : Prop :=
  ∃ (it : Addr) (fp : List Addr) (tn : Nat -> Heap -> Prop) (J : It) (H' : Hp), itv = .ref it /\ Inv X pins σ H' s2 /\ Turn X.prog X.w X.K tg J fp it tn /\ tn 0 s2.heap /\ (∀ b ∈ fp, FpOk X pins H' b) /\ R J H'
def PI (X : Cx) (tg iter : Expr) (wi : TI) : Prop :=
  ∀ (pins : List (Addr × Obj)) (s : Shared) (σ : St) (H : Hp) (R : It -> Hp -> Prop), Inv X pins σ H s -> wi σ H R ->
    wpAny (model X.prog X.w) X.A (eval iter X.env) (fun v s1 => wpAny (model X.prog X.w) X.A (pyIter v) (PIE X pins σ tg R) X.xe s1) X.xe s
theorem go_of {M : Model} {A : Around} {E : Value -> Shared -> Prop} {s : Shared} {tg : Expr} {it : Addr} {u : Value} {o : Obj} {n : String} {vs : Array Value} {Q : Unit -> Shared -> Prop} (ho : s.heap.get? it = some o) (hc : o.cls = .type n) (hd : o.data = .fields vs)
    (hn : ["enumerate", "zip", "dict_itemiterator", "dict_reverseitemiterator", "odict_iterator", "itertools.zip_longest", "itertools.pairwise"].contains n = false) (hQ : Q () s) : wpAny M A (letOwnedTupleGo tg (.ref it) u) Q E s := by
  unfold letOwnedTupleGo
  cases tg <;> first
    | exact wpAny_pure hQ
    | (cases u <;> first
        | exact wpAny_pure hQ
        | (refine wpAny_bind (wpAny_load ho ?_)
           rw [hc, hd]
           show wpAny M A (if (["enumerate", "zip", "dict_itemiterator", "dict_reverseitemiterator", "odict_iterator", "itertools.zip_longest", "itertools.pairwise"].contains n && vs[0]? == some (rawInt _)) = true then _ else _) Q E s
           rw [if_neg (by intro h; rw [hn, Bool.false_and] at h; cases h)]
           exact wpAny_pure hQ))
def Itl (K : PySem.W.Frag) (a : Addr) : It :=
  ⟨fun i H => ∃ xs x, SqL K H a xs /\ xs[i]? = some x, fun i H x H' => H' = H /\ ∀ xs, SqL K H a xs -> xs[i]? = some x, fun i H => ∃ xs, SqL K H a xs /\ xs.length <= i⟩
def Itt (K : PySem.W.Frag) (a : Addr) : It :=
  ⟨fun i H => ∃ xs x, SqT K H a xs /\ xs[i]? = some x, fun i H x H' => H' = H /\ ∀ xs, SqT K H a xs -> xs[i]? = some x, fun i H => ∃ xs, SqT K H a xs /\ xs.length <= i⟩
def Itr (lo : Int) (n : Nat) : It := ⟨fun i _ => i < n, fun i H x H' => H' = H /\ x = .int (lo + i), fun i _ => n <= i⟩
theorem turn_list {P : Program} {w : World} {K : PySem.W.Frag} {tg : Expr} (a it : Addr) : Turn P w K tg (Itl K a) [it] it (fun i h => h.IsListIter it a i) where
  mem := by simp
  obj := fun i h st b hb => by
    have e : b = it := by simpa using hb
    subst e
    obtain ⟨o, e, c, d⟩ := st
    exact ⟨o, e, fun v z => by rw [d] at z; cases z⟩
  keep := fun i h h' st k => st.at fun o e => k it (by simp) o e
  item := by
    intro X hP hw hK hc i pins s σ H E I hf st hg
    subst hP hw hK
    obtain ⟨xs, x, hq, hx⟩ := hg
    obtain ⟨its, rv, p, hz⟩ := I.list hq
    obtain ⟨u, hu, ru⟩ := rv.get hx
    obtain ⟨f0, f1, f2, f3, f4, f5⟩ := hf it (by simp)
    refine wpAny_pyNext_list_item st p.isList (x := u) (by simpa using hu) fun h' st' sb => ?_
    have I1 : Inv X pins σ H { s with heap := h' } := I.turned (t' := s.toks) (fun b o hb e => (sb.2 b hb).trans e) f0 f1 f3 f4 f5
    obtain ⟨o, e, c, d⟩ := id st'
    exact ⟨u, rfl, go_of (s := { s with heap := h' }) e c d (by decide) ⟨x, H, I1, ru, ⟨rfl, fun ys hy => by rw [I.list_inj hy hq]; exact hx⟩, st', fun b hb => (hf b hb).1⟩⟩
  done := by
    intro X hP hw hK hc i pins s σ H E I hf st hg
    subst hP hw hK
    obtain ⟨xs, hq, hx⟩ := hg
    obtain ⟨its, rv, p, hz⟩ := I.list hq
    obtain ⟨f0, f1, f2, f3, f4, f5⟩ := hf it (by simp)
    have hl := rv.length
    exact wpAny_pyNext_list_end (I.ok.hd hc) st p.isList (by simp; lia) fun h' eb => ⟨rfl, I.turned (t' := s.toks) (fun b o hb e => eb b o hb e) f0 f1 f3 f4 f5⟩
  self := fun _ _ _ _ _ st h => wpAny_pyIter_listiter st h
theorem turn_tuple {P : Program} {w : World} {K : PySem.W.Frag} {tg : Expr} (a it : Addr) : Turn P w K tg (Itt K a) [it] it (fun i h => h.IsTupleIter it a i) where
  mem := by simp
  obj := fun i h st b hb => by
    have e : b = it := by simpa using hb
    subst e
    obtain ⟨o, e, c, d⟩ := st
    exact ⟨o, e, fun v z => by rw [d] at z; cases z⟩
  keep := fun i h h' st k => st.at fun o e => k it (by simp) o e
  item := by
    intro X hP hw hK hc i pins s σ H E I hf st hg
    subst hP hw hK
    obtain ⟨xs, x, hq, hx⟩ := hg
    obtain ⟨its, rv, p, hz⟩ := I.tuple hq
    obtain ⟨u, hu, ru⟩ := rv.get hx
    obtain ⟨f0, f1, f2, f3, f4, f5⟩ := hf it (by simp)
    refine wpAny_pyNext_tuple_item st (show s.heap.IsTuple a its.toArray from p) (x := u) (by simpa using hu) fun h' st' sb => ?_
    have I1 : Inv X pins σ H { s with heap := h' } := I.turned (t' := s.toks) (fun b o hb e => (sb.2 b hb).trans e) f0 f1 f3 f4 f5
    obtain ⟨o, e, c, d⟩ := id st'
    exact ⟨u, rfl, go_of (s := { s with heap := h' }) e c d (by decide) ⟨x, H, I1, ru, ⟨rfl, fun ys hy => by rw [I.tuple_inj hy hq]; exact hx⟩, st', fun b hb => (hf b hb).1⟩⟩
  done := by
    intro X hP hw hK hc i pins s σ H E I hf st hg
    subst hP hw hK
    obtain ⟨xs, hq, hx⟩ := hg
    obtain ⟨its, rv, p, hz⟩ := I.tuple hq
    obtain ⟨f0, f1, f2, f3, f4, f5⟩ := hf it (by simp)
    have hl := rv.length
    exact wpAny_pyNext_tuple_end (I.ok.hd hc) st (show s.heap.IsTuple a its.toArray from p) (by simp; lia) fun h' eb => ⟨rfl, I.turned (t' := s.toks) (fun b o hb e => eb b o hb e) f0 f1 f3 f4 f5⟩
  self := fun _ _ _ _ _ st h => wpAny_pyIter_tupleiter st h
theorem turn_range {P : Program} {w : World} {K : PySem.W.Frag} {tg : Expr} (it : Addr) (lo : Int) (n : Nat) : Turn P w K tg (Itr lo n) [it] it (fun i h => IsRangeIter h it (lo + (i : Nat) * 1) ((n : Int) - (i : Nat)) 1) where
  mem := by simp
  obj := fun i h st b hb => by
    have e : b = it := by simpa using hb
    subst e
    exact ⟨_, st, fun v z => by
      have z' : Data.fields _ = Data.cell v := z
      cases z'⟩
  keep := fun i h h' st k => k it (by simp) _ st
  item := by
    intro X hP hw hK hc i pins s σ H E I hf st hg
    subst hP hw hK
    obtain ⟨f0, f1, f2, f3, f4, f5⟩ := hf it (by simp)
    have W := Walks.range (prog := X.prog) (w := X.w) (I.ok.hd hc) it lo 1 n
    refine W.item i s _ _ hg st fun v h' tk hv st' kk => ?_
    obtain ⟨t, rfl⟩ := hv
    have I1 : Inv X pins σ H { s with heap := h', toks := tk } := I.turned (fun b o hb e => kk b o (by simpa using hb) e) f0 f1 f3 f4 f5
    refine ⟨_, rfl, go_of (s := { s with heap := h', toks := tk }) (n := "range_iterator") st' rfl rfl (by decide) ⟨.int (lo + i), H, I1, ⟨t, ?_⟩, ⟨rfl, rfl⟩, st', fun b hb => (hf b hb).1⟩⟩
    rw [Int.mul_one]
  done := by
    intro X hP hw hK hc i pins s σ H E I hf st hg
    subst hP hw hK
    obtain ⟨f0, f1, f2, f3, f4, f5⟩ := hf it (by simp)
    exact wpAny_pyNext_range_end (I.ok.hd hc) st (by have : n <= i := hg; lia) fun h' eb => ⟨rfl, I.turned (t' := s.toks) (fun b o hb e => eb b o hb e) f0 f1 f3 f4 f5⟩
  self := fun _ _ _ _ _ st h => wpAny_pyIter_rangeiter st h
section
variable {X : Cx} {tg : Expr}
def iList (K : PySem.W.Frag) (tl : TE) : TI := fun σ H R => tl σ H fun x H1 => ∃ a, x = .ref a /\ (∃ xs, SqL K H1 a xs) /\ R (Itl K a) H1
def iTup (K : PySem.W.Frag) (tl : TE) : TI := fun σ H R => tl σ H fun x H1 => ∃ a, x = .ref a /\ (∃ xs, SqT K H1 a xs) /\ R (Itt K a) H1
theorem pi_list {l : Expr} {tl : TE} (hl : PE X l tl) : PI X tg l (iList X.K tl) := by
  intro pins s σ H R I h
  refine thn (hl pins s σ H _ I h) fun v s1 ⟨x, H1, I1, r1, q1⟩ => ?_
  obtain ⟨a, e, ⟨xs, hq⟩, q⟩ := q1
  subst e
  cases r1
  obtain ⟨its, rv, p, hz⟩ := I1.list hq
  refine wpAny_pyIter_list p.isList ?_
  refine ⟨s1.heap.objs.size, [s1.heap.objs.size], _, _, H1, rfl, I1.kept (t' := s1.toks) fun b o e => Heap.get?_push_of_some _ e, turn_list a _, ⟨_, Heap.get?_push_size _ rfl, rfl, rfl⟩, fun b hb => ?_, q⟩
  have e : b = s1.heap.objs.size := by simpa using hb
  subst e
  exact I1.fpOk (Nat.le_refl _) (I1.hok.fresh (Nat.le_refl _))
theorem pi_tup {l : Expr} {tl : TE} (hl : PE X l tl) : PI X tg l (iTup X.K tl) := by
  intro pins s σ H R I h
  refine thn (hl pins s σ H _ I h) fun v s1 ⟨x, H1, I1, r1, q1⟩ => ?_
  obtain ⟨a, e, ⟨xs, hq⟩, q⟩ := q1
  subst e
  cases r1
  obtain ⟨its, rv, p, hz⟩ := I1.tuple hq
  refine wpAny_pyIter_tuple (show s1.heap.IsTuple a its.toArray from p) ?_
  refine ⟨s1.heap.objs.size, [s1.heap.objs.size], _, _, H1, rfl, I1.kept (t' := s1.toks) fun b o e => Heap.get?_push_of_some _ e, turn_tuple a _, ⟨_, Heap.get?_push_size _ rfl, rfl, rfl⟩, fun b hb => ?_, q⟩
  have e : b = s1.heap.objs.size := by simpa using hb
  subst e
  exact I1.fpOk (Nat.le_refl _) (I1.hok.fresh (Nat.le_refl _))
theorem range_it {pins : List (Addr × Obj)} {σ : St} {H : Hp} {s : Shared} {R : It -> Hp -> Prop} {E : Value -> Shared -> Prop} {lo hi : Int} {t u v : Tok} {tk : Nat} (I : Inv X pins σ H s) (h1 : -(2 ^ 62) <= lo) (h2 : lo < 2 ^ 62) (h3 : -(2 ^ 62) <= hi) (h4 : hi < 2 ^ 62)
    (q : R (Itr lo (hi - lo).toNat) H) : wpAny (model X.prog X.w) X.A (pyIter (.ref s.heap.objs.size)) (PIE X pins σ tg R) E { s with heap := s.heap.push { cls := .type "range", data := .fields #[.int lo t, .int hi u, .int 1 v] }, toks := tk } := by
  refine wpAny_pyIter_range (IsRange.new ..) (small_one h1 h2 h3 h4) ?_
  have I1 : Inv X pins σ H { s with heap := s.heap.push { cls := .type "range", data := .fields #[.int lo t, .int hi u, .int 1 v] }, toks := tk } := I.kept fun b o e => Heap.get?_push_of_some _ e
  refine ⟨(s.heap.push { cls := .type "range", data := .fields #[.int lo t, .int hi u, .int 1 v] }).objs.size, [(s.heap.push { cls := .type "range", data := .fields #[.int lo t, .int hi u, .int 1 v] }).objs.size], _, _, H, rfl,
    I1.kept (t' := tk) fun b o e => Heap.get?_push_of_some _ e, turn_range _ lo (hi - lo).toNat, ?_, fun b hb => ?_, q⟩
  · have e1 : lo + ((0 : Nat) : Int) * 1 = lo := by simp
    have e2 : (((hi - lo).toNat : Nat) : Int) - ((0 : Nat) : Int) = Builtin.Range.rangeSize lo hi 1 := by rw [rangeSize_one]; split <;> lia
    show IsRangeIter _ _ (lo + ((0 : Nat) : Int) * 1) ((((hi - lo).toNat : Nat) : Int) - ((0 : Nat) : Int)) 1
    rw [e1, e2]
    exact Heap.get?_push_size _ rfl
  · have e : b = (s.heap.push { cls := .type "range", data := .fields #[.int lo t, .int hi u, .int 1 v] }).objs.size := by simpa using hb
    subst e
    exact I1.fpOk (Nat.le_refl _) (I1.hok.fresh (Nat.le_refl _))
def iRng1 (ta : TA) : TI := fun σ H R => ta σ H fun vs H1 => ∃ j : Int, vs = [.int j] /\ -(2 ^ 62) <= j /\ j < 2 ^ 62 /\ R (Itr 0 j.toNat) H1
def iRng2 (ta : TA) : TI := fun σ H R => ta σ H fun vs H1 => ∃ i j : Int, vs = [.int i, .int j] /\ (-(2 ^ 62) <= i /\ i < 2 ^ 62 /\ -(2 ^ 62) <= j /\ j < 2 ^ 62) /\ R (Itr i (j - i).toNat) H1
theorem pi_range1 {a : Expr} {ta : TA} {p pos : Pos} (hg : Gl X "range") (hm : X.mg "range" = none) (ha : PA X [a] ta) (hs : starEach [a] X.env = [(false, eval a X.env)] := by rfl) : PI X tg (.Call (.Name "range" p) [a] [] pos) (iRng1 ta) := by
  intro pins s σ H R I h
  refine Call_ (ld_blt I hg hm boot_range (PyProof.Rows.callWith_type1 (thn (ha pos pins s σ H _ I h) fun us s1 ⟨vs, H1, I1, r1, q1⟩ => ?_) hs rfl))
  obtain ⟨j, e, q1, q2, q⟩ := q1
  subst e
  cases r1 with
  | cons r rr =>
    cases rr
    obtain ⟨t, rfl⟩ := r
    exact call_range_1 (range_it I1 (by lia) (by lia) q1 q2 (by simpa using q))
theorem pi_range2 {a b : Expr} {ta : TA} {p pos : Pos} (hg : Gl X "range") (hm : X.mg "range" = none) (ha : PA X [a, b] ta) (hs : starEach [a, b] X.env = [(false, eval a X.env), (false, eval b X.env)] := by rfl) (hs2 : starEach [b] X.env = [(false, eval b X.env)] := by rfl) :
    PI X tg (.Call (.Name "range" p) [a, b] [] pos) (iRng2 ta) := by
  intro pins s σ H R I h
  refine Call_ (ld_blt I hg hm boot_range (PyProof.Rows.callWith_type1 (thn (ha pos pins s σ H _ I h) fun us s1 ⟨vs, H1, I1, r1, q1⟩ => ?_) (by rw [hs, hs2]) (by rw [hs2]; rfl)))
  obtain ⟨i, j, e, ⟨q1, q2, q3, q4⟩, q⟩ := q1
  subst e
  cases r1 with
  | cons r rr =>
    cases rr with
    | cons r' rr =>
      cases rr
      obtain ⟨t, rfl⟩ := r
      obtain ⟨t', rfl⟩ := r'
      exact call_range_2 (range_it I1 q1 q2 q3 q4 q)
def tFor (wi : TI) (g : TG) (tb : TS) : TS := fun D σ H => wi σ H fun J H1 => ∃ W : Nat -> Nat -> St -> Hp -> Prop, (∃ m, W 0 m σ H1) /\ ∀ i m σ H, W i m σ H ->
  (J.stop i H /\ D.nx σ H) \/ (J.go i H /\ ∃ N : St -> Hp -> Prop, (∀ σ' H', N σ' H' -> ∃ m', m' < m /\ W (i + 1) m' σ' H') /\ ∀ x H', J.yld i H x H' -> g x σ H' fun σ2 H2 => tb { D with nx := N, ct := N, bk := D.nx } σ2 H2)
def pinsAt (fp : List Addr) (h : Heap) : List (Addr × Obj) := fp.filterMap fun b => (h.get? b).map fun o => (b, o)
theorem mem_pinsAt {fp : List Addr} {h : Heap} {b : Addr} {o : Obj} (hb : b ∈ fp) (e : h.get? b = some o) : (b, o) ∈ pinsAt fp h := List.mem_filterMap.mpr ⟨b, hb, by rw [e]; rfl⟩
theorem of_pinsAt {fp : List Addr} {h : Heap} {p : Addr × Obj} (hp : p ∈ pinsAt fp h) : p.1 ∈ fp /\ h.get? p.1 = some p.2 := by
  obtain ⟨b, hb, e⟩ := List.mem_filterMap.mp hp
  cases q : h.get? b with
  | none => rw [q] at e; cases e
  | some o =>
    rw [q] at e
    have e' : (b, o) = p := Option.some.inj e
    subst e'
    exact ⟨hb, q⟩
theorem Inv.pinned {pins : List (Addr × Obj)} {σ : St} {H : Hp} {s : Shared} {fp : List Addr} (I : Inv X pins σ H s) (hf : ∀ b ∈ fp, FpOk X pins H b) (ho : ∀ b ∈ fp, ∃ o, s.heap.get? b = some o /\ ∀ v, o.data ≠ .cell v) : Inv X (pins ++ pinsAt fp s.heap) σ H s :=
  I.pins_of fun p hp => (List.mem_append.mp hp).elim (fun z => I.pin p (List.mem_append_right _ z)) fun z => by
    obtain ⟨hb, e⟩ := of_pinsAt z
    obtain ⟨f0, f1, f2, _⟩ := hf p.1 hb
    obtain ⟨o, e', d⟩ := ho p.1 hb
    rw [e] at e'; cases e'
    exact ⟨e, f0, f1, f2, d⟩
theorem Inv.unpinned {pins pl : List (Addr × Obj)} {σ : St} {H : Hp} {s : Shared} (I : Inv X (pins ++ pl) σ H s) : Inv X pins σ H s := I.pins_of fun p hp => I.pin p (List.mem_append_right _ (List.mem_append_left _ hp))
theorem ps_for {iter : Expr} {body : List Stmt} {wi : TI} {g : TG} {tb : TS} {pos : Pos} (hp : PassesOwn (model X.prog X.w) X.A X.env X.xe) (hc : X.calm = true) (hi : PI X tg iter wi) (hg : PG X tg g) (hb : PSs X body tb)
    (hs : ∀ x, foldedSetIterable iter X.env x = pure x := by intro _; rfl) : PS X (.For tg iter body [] pos) (tFor wi g tb) := by
  intro pins s σ H D I h
  refine wpAny_For (thn (hi pins s σ H _ I h) fun v s1 h1 => thn h1 fun itv s2 h2 => ?_) hs
  obtain ⟨it, fp, tn, J, H2, e, I2, T, st2, f2, W, ⟨m0, w0⟩, turn⟩ := h2
  subst e
  have stat : ∀ {H' : Hp}, (∀ b ∈ fp, H' b = none) -> ∀ b ∈ fp, FpOk X pins H' b := fun hn b hb => ⟨hn b hb, (f2 b hb).2⟩
  refine codeAny_forLoop_any (fun n s' => ∃ i σ' H', Inv X pins σ' H' s' /\ tn i s'.heap /\ (∀ b ∈ fp, H' b = none) /\ W i n σ' H') ?_ m0 ⟨0, σ, H2, I2, st2, fun b hb => (f2 b hb).1, w0⟩
  rintro n s3 ⟨i, σ3, H3, I3, st3, fr3, w3⟩
  rcases turn i n σ3 H3 w3 with ⟨stop, qn⟩ | ⟨go, N, hN, step⟩
  · refine wpAny_passesOwn hp (thn (T.done X rfl rfl rfl hc i pins s3 σ3 H3 X.xe I3 (stat fr3) st3 stop) fun r s4 ⟨hr, I4⟩ => ?_)
    subst hr
    exact wpAny_execs_nil ⟨σ3, H3, I4, qn⟩
  · refine wpAny_passesOwn hp (thn (T.item X rfl rfl rfl hc i pins s3 σ3 H3 X.xe I3 (stat fr3) st3 go) fun r s4 ⟨u, hr, h4⟩ => ?_)
    subst hr
    refine wpAny_passesOwn hp (thn h4 fun _ s5 ⟨x, H5, I5, r5, y5, st5, fr5⟩ => ?_)
    have I5' := I5.pinned (stat fr5) (T.obj _ _ st5)
    refine wpAny_passesOwn hp (thn (hg _ s5 σ3 H5 x u _ I5' r5 (step x H5 y5)) fun _ s6 ⟨σ6, H6, I6, q6⟩ => ?_)
    refine wpAny_passesOwn hp (thn (hb _ s6 σ6 H6 _ I6 q6) fun f s7 q7 => ?_)
    have again : ∀ {σ7 : St} {H7 : Hp}, Inv X (pins ++ pinsAt fp s5.heap) σ7 H7 s7 -> N σ7 H7 -> ∃ m, m < n /\ ∃ i σ' H', Inv X pins σ' H' s7 /\ tn i s7.heap /\ (∀ b ∈ fp, H' b = none) /\ W i m σ' H' := fun {σ7 H7} I7 n7 => by
      obtain ⟨m', hm, w7⟩ := hN σ7 H7 n7
      refine ⟨m', hm, i + 1, σ7, H7, I7.unpinned, T.keep _ _ _ st5 fun b hb o e => (I7.pin (b, o) (List.mem_append_right _ (List.mem_append_right _ (mem_pinsAt hb e)))).1, fun b hb => ?_, w7⟩
      obtain ⟨o, e, d⟩ := T.obj _ _ st5 b hb
      exact (I7.pin (b, o) (List.mem_append_right _ (List.mem_append_right _ (mem_pinsAt hb e)))).2.1
    cases f with
    | next => obtain ⟨σ7, H7, I7, n7⟩ := q7; exact again I7 n7
    | cont => obtain ⟨σ7, H7, I7, n7⟩ := q7; exact again I7 n7
    | brk => obtain ⟨σ7, H7, I7, q7⟩ := q7; exact ⟨σ7, H7, I7.unpinned, q7⟩
    | ret v => obtain ⟨x7, σ7, H7, I7, r7, q7⟩ := q7; exact ⟨x7, σ7, H7, I7.unpinned, r7, q7⟩
end
theorem for_list {K : PySem.W.Frag} {a : Addr} {xs : List V} {g : TG} {tb : TS} {D : Ends} {σ : St} {H : Hp} (Pv : Nat -> St -> Hp -> Prop) (h0 : Pv 0 σ H) (hl : ∀ i σ H, i <= xs.length -> Pv i σ H -> SqL K H a xs)
    (hs : ∀ i x σ H, xs[i]? = some x -> Pv i σ H -> g x σ H fun σ2 H2 => tb { D with nx := Pv (i + 1), ct := Pv (i + 1), bk := D.nx } σ2 H2) (hd : ∀ σ H, Pv xs.length σ H -> D.nx σ H) :
    ∃ W : Nat -> Nat -> St -> Hp -> Prop, (∃ m, W 0 m σ H) /\ ∀ i m σ H, W i m σ H ->
      ((Itl K a).stop i H /\ D.nx σ H) \/ ((Itl K a).go i H /\ ∃ N : St -> Hp -> Prop, (∀ σ' H', N σ' H' -> ∃ m', m' < m /\ W (i + 1) m' σ' H') /\ ∀ x H', (Itl K a).yld i H x H' -> g x σ H' fun σ2 H2 => tb { D with nx := N, ct := N, bk := D.nx } σ2 H2) := by
  refine ⟨fun i m σ H => m = xs.length - i /\ i <= xs.length /\ Pv i σ H, ⟨xs.length, by simp, Nat.zero_le _, h0⟩, ?_⟩
  rintro i m σ H ⟨rfl, hi, p⟩
  have q := hl i σ H hi p
  by_cases hlt : i < xs.length
  · refine .inr ⟨⟨xs, xs[i], q, by simp [hlt]⟩, Pv (i + 1), fun σ' H' p' => ⟨xs.length - (i + 1), by lia, rfl, hlt, p'⟩, fun x H' y => ?_⟩
    obtain ⟨e, y⟩ := y
    subst e
    exact hs i x σ _ (y xs q) p
  · have e : i = xs.length := by lia
    subst e
    exact .inl ⟨⟨xs, q, Nat.le_refl _⟩, hd σ H p⟩
theorem for_tup {K : PySem.W.Frag} {a : Addr} {xs : List V} {g : TG} {tb : TS} {D : Ends} {σ : St} {H : Hp} (Pv : Nat -> St -> Hp -> Prop) (h0 : Pv 0 σ H) (hl : ∀ i σ H, i <= xs.length -> Pv i σ H -> SqT K H a xs)
    (hs : ∀ i x σ H, xs[i]? = some x -> Pv i σ H -> g x σ H fun σ2 H2 => tb { D with nx := Pv (i + 1), ct := Pv (i + 1), bk := D.nx } σ2 H2) (hd : ∀ σ H, Pv xs.length σ H -> D.nx σ H) :
    ∃ W : Nat -> Nat -> St -> Hp -> Prop, (∃ m, W 0 m σ H) /\ ∀ i m σ H, W i m σ H ->
      ((Itt K a).stop i H /\ D.nx σ H) \/ ((Itt K a).go i H /\ ∃ N : St -> Hp -> Prop, (∀ σ' H', N σ' H' -> ∃ m', m' < m /\ W (i + 1) m' σ' H') /\ ∀ x H', (Itt K a).yld i H x H' -> g x σ H' fun σ2 H2 => tb { D with nx := N, ct := N, bk := D.nx } σ2 H2) := by
  refine ⟨fun i m σ H => m = xs.length - i /\ i <= xs.length /\ Pv i σ H, ⟨xs.length, by simp, Nat.zero_le _, h0⟩, ?_⟩
  rintro i m σ H ⟨rfl, hi, p⟩
  have q := hl i σ H hi p
  by_cases hlt : i < xs.length
  · refine .inr ⟨⟨xs, xs[i], q, by simp [hlt]⟩, Pv (i + 1), fun σ' H' p' => ⟨xs.length - (i + 1), by lia, rfl, hlt, p'⟩, fun x H' y => ?_⟩
    obtain ⟨e, y⟩ := y
    subst e
    exact hs i x σ _ (y xs q) p
  · have e : i = xs.length := by lia
    subst e
    exact .inl ⟨⟨xs, q, Nat.le_refl _⟩, hd σ H p⟩
theorem for_range {lo : Int} {n : Nat} {g : TG} {tb : TS} {D : Ends} {σ : St} {H : Hp} (Pv : Nat -> St -> Hp -> Prop) (h0 : Pv 0 σ H)
    (hs : ∀ i σ H, i < n -> Pv i σ H -> g (.int (lo + i)) σ H fun σ2 H2 => tb { D with nx := Pv (i + 1), ct := Pv (i + 1), bk := D.nx } σ2 H2) (hd : ∀ σ H, Pv n σ H -> D.nx σ H) :
    ∃ W : Nat -> Nat -> St -> Hp -> Prop, (∃ m, W 0 m σ H) /\ ∀ i m σ H, W i m σ H ->
      ((Itr lo n).stop i H /\ D.nx σ H) \/ ((Itr lo n).go i H /\ ∃ N : St -> Hp -> Prop, (∀ σ' H', N σ' H' -> ∃ m', m' < m /\ W (i + 1) m' σ' H') /\ ∀ x H', (Itr lo n).yld i H x H' -> g x σ H' fun σ2 H2 => tb { D with nx := N, ct := N, bk := D.nx } σ2 H2) := by
  refine ⟨fun i m σ H => m = n - i /\ i <= n /\ Pv i σ H, ⟨n, by simp, Nat.zero_le _, h0⟩, ?_⟩
  rintro i m σ H ⟨rfl, hi, p⟩
  by_cases hlt : i < n
  · refine .inr ⟨hlt, Pv (i + 1), fun σ' H' p' => ⟨n - (i + 1), by lia, rfl, hlt, p'⟩, fun x H' y => ?_⟩
    obtain ⟨e, y⟩ := y
    subst e y
    exact hs i σ _ hlt p
  · have e : i = n := by lia
    subst e
    exact .inl ⟨Nat.le_refl _, hd σ H p⟩
abbrev R2 := V -> V -> Hp -> VK -> Prop
def OpR (X : Cx) (f : Value -> Value -> Sem Value) (r : R2) : Prop :=
  ∀ (pins : List (Addr × Obj)) (s : Shared) (σ : St) (H : Hp) (x y : V) (v u : Value) (Q : VK), Inv X pins σ H s -> RelV x v -> RelV y u -> r x y H Q ->
    wpAny (model X.prog X.w) X.A (f v u) (EP X pins σ Q) X.xe s
def UnR (X : Cx) (f : Value -> Sem Value) (r : V -> Hp -> VK -> Prop) : Prop :=
  ∀ (pins : List (Addr × Obj)) (s : Shared) (σ : St) (H : Hp) (x : V) (v : Value) (Q : VK), Inv X pins σ H s -> RelV x v -> r x H Q ->
    wpAny (model X.prog X.w) X.A (f v) (EP X pins σ Q) X.xe s
def CallR (X : Cx) (f : Value) (r : List V -> Hp -> VK -> Prop) : Prop :=
  ∀ (pins : List (Addr × Obj)) (s : Shared) (σ : St) (H : Hp) (xs : List V) (us : List Value) (Q : VK), Inv X pins σ H s -> Vals xs us -> r xs H Q ->
    wpAny (model X.prog X.w) X.A (call f us) (EP X pins σ Q) X.xe s
def TruR (X : Cx) (r : V -> Hp -> (Bool -> Hp -> Prop) -> Prop) : Prop :=
  ∀ (pins : List (Addr × Obj)) (s : Shared) (σ : St) (H : Hp) (x : V) (v : Value) (Q : Bool -> Hp -> Prop), Inv X pins σ H s -> RelV x v -> r x H Q ->
    wpAny (model X.prog X.w) X.A (truthy v) (TP X pins σ Q) X.xe s
def tOp (r : R2) (ta tb : TE) : TE := fun σ H Q => ta σ H fun x H1 => tb σ H1 fun y H2 => r x y H2 Q
def tUn (r : V -> Hp -> VK -> Prop) (ta : TE) : TE := fun σ H Q => ta σ H fun x H1 => r x H1 Q
def rI (C : Int -> Int -> Prop) (g : Int -> Int -> V) : R2 := fun x y H Q => ∃ i j, x = .int i /\ y = .int j /\ C i j /\ Q (g i j) H
def rI0 (g : Int -> Int -> V) : R2 := fun x y H Q => ∃ i j, x = .int i /\ y = .int j /\ Q (g i j) H
def rU (g : Int -> V) : V -> Hp -> VK -> Prop := fun x H Q => ∃ i, x = .int i /\ Q (g i) H
section
variable {X : Cx} {a b c : Expr} {ta tb tc : TE} {pos : Pos}
theorem binT (ha : PE X a ta) (hb : PE X b tb) {pins : List (Addr × Obj)} {s : Shared} {σ : St} {H : Hp} {R : V -> V -> Hp -> Prop} (I : Inv X pins σ H s)
    (h : ta σ H fun x H1 => tb σ H1 fun y H2 => R x y H2) {Q : Value -> Shared -> Prop} {f : Value -> Value -> Sem Value}
    (hf : ∀ v u s2 x y H2, Inv X pins σ H2 s2 -> RelV x v -> RelV y u -> R x y H2 -> wpAny (model X.prog X.w) X.A (f v u) Q X.xe s2) :
    wpAny (model X.prog X.w) X.A (eval a X.env) (fun v s₁ => wpAny (model X.prog X.w) X.A (eval b X.env) (fun u s₂ => wpAny (model X.prog X.w) X.A (f v u) Q X.xe s₂) X.xe s₁) X.xe s := by
  refine thn (ha pins s σ H _ I h) fun v s1 ⟨x, H1, I1, r1, q1⟩ => ?_
  refine thn (hb pins s1 σ H1 _ I1 q1) fun u s2 ⟨y, H2, I2, r2, q2⟩ => ?_
  exact hf v u s2 x y H2 I2 r1 r2 q2
theorem pe_op {op : Operator} {r : R2} (ho : OpR X (binaryOp op) r) (ha : PE X a ta) (hb : PE X b tb) : PE X (.BinOp a op b pos) (tOp r ta tb) := by
  intro pins s σ H Q I h
  exact wpAny_BinOp (binT ha hb I h fun v u s2 x y H2 I2 rx ry q => ho pins s2 σ H2 x y v u Q I2 rx ry q)
theorem pe_un {op : UnaryOp} {r : V -> Hp -> VK -> Prop} (ho : UnR X (unaryOp op) r) (ha : PE X a ta) : PE X (.UnaryOp op a pos) (tUn r ta) := by
  intro pins s σ H Q I h
  exact UnaryOp_ (thn (ha pins s σ H _ I h) fun v s1 ⟨x, H1, I1, r1, q1⟩ => ho pins s1 σ H1 x v Q I1 r1 q1)
theorem opI {f : Value -> Value -> Sem Value} {C : Int -> Int -> Prop} {g : Int -> Int -> Int}
    (rule : ∀ (i j : Int) (t u : Tok) (s : Shared) (Q : Value -> Shared -> Prop) (E : Value -> Shared -> Prop), C i j -> Q (.int (g i j) s.toks) { s with toks := s.toks + 1 } -> wpAny (model X.prog X.w) X.A (f (.int i t) (.int j u)) Q E s) :
    OpR X f (rI C fun i j => .int (g i j)) := by
  intro pins s σ H x y v u Q I rx ry h
  obtain ⟨i, j, rfl, rfl, hc, q⟩ := h
  obtain ⟨t, rfl⟩ := rx
  obtain ⟨t', rfl⟩ := ry
  exact rule i j t t' s _ _ hc ⟨.int (g i j), H, I.tok _, ⟨_, rfl⟩, q⟩
theorem opI0 {f : Value -> Value -> Sem Value} {g : Int -> Int -> Int}
    (rule : ∀ (i j : Int) (t u : Tok) (s : Shared) (Q : Value -> Shared -> Prop) (E : Value -> Shared -> Prop), Q (.int (g i j) s.toks) { s with toks := s.toks + 1 } -> wpAny (model X.prog X.w) X.A (f (.int i t) (.int j u)) Q E s) :
    OpR X f (rI0 fun i j => .int (g i j)) := by
  intro pins s σ H x y v u Q I rx ry h
  obtain ⟨i, j, rfl, rfl, q⟩ := h
  obtain ⟨t, rfl⟩ := rx
  obtain ⟨t', rfl⟩ := ry
  exact rule i j t t' s _ _ ⟨.int (g i j), H, I.tok _, ⟨_, rfl⟩, q⟩
theorem opB0 {f : Value -> Value -> Sem Value} {g : Int -> Int -> Bool}
    (rule : ∀ (i j : Int) (t u : Tok) (s : Shared) (Q : Value -> Shared -> Prop) (E : Value -> Shared -> Prop), Q (.bool (g i j)) s -> wpAny (model X.prog X.w) X.A (f (.int i t) (.int j u)) Q E s) :
    OpR X f (rI0 fun i j => .bl (g i j)) := by
  intro pins s σ H x y v u Q I rx ry h
  obtain ⟨i, j, rfl, rfl, q⟩ := h
  obtain ⟨t, rfl⟩ := rx
  obtain ⟨t', rfl⟩ := ry
  exact rule i j t t' s _ _ ⟨.bl (g i j), H, I, rfl, q⟩
def CDiv (i j : Int) : Prop := 0 < j /\ j < 1073741824
def CPow (i j : Int) : Prop := 0 <= j /\ j <= 1000000 /\ i.natAbs < 2 ^ 64
theorem op_add : OpR X (binaryOp .Add) (rI0 fun i j => .int (i + j)) := opI0 fun _ _ _ _ _ _ _ q => add_int q
theorem op_sub : OpR X (binaryOp .Sub) (rI0 fun i j => .int (i - j)) := opI0 fun _ _ _ _ _ _ _ q => sub_int q
theorem op_fdiv : OpR X (binaryOp .FloorDiv) (rI CDiv fun i j => .int (i / j)) := opI fun i j _ _ _ _ _ hc q => by
  have h1 : (0 : Int) < j := hc.1
  have h2 : j < 1073741824 := hc.2
  exact floordiv_int (by lia) (by rw [Int.fdiv_eq_ediv_of_nonneg i (by lia)]; exact q) (.inl (PyProof.noPylong_small (by lia)))
theorem op_mod : OpR X (binaryOp .Mod) (rI (fun _ j => 0 < j) fun i j => .int (i % j)) := opI fun i j _ _ _ _ _ hc q => by
  have h1 : (0 : Int) < j := hc
  exact mod_int' (by lia) (by rw [Int.fmod_eq_emod_of_nonneg i (by lia)]; exact q)
theorem op_pow : OpR X (binaryOp .Pow) (rI CPow fun i j => .int (i ^ j.toNat)) := opI fun _ _ _ _ _ _ _ hc q => pow_int_small hc.1 hc.2.1 hc.2.2 q
theorem unI {f : Value -> Sem Value} {g : Int -> Int}
    (rule : ∀ (i : Int) (t : Tok) (s : Shared) (Q : Value -> Shared -> Prop) (E : Value -> Shared -> Prop), Q (.int (g i) s.toks) { s with toks := s.toks + 1 } -> wpAny (model X.prog X.w) X.A (f (.int i t)) Q E s) :
    UnR X f (rU fun i => .int (g i)) := by
  intro pins s σ H x v Q I rx h
  obtain ⟨i, rfl, q⟩ := h
  obtain ⟨t, rfl⟩ := rx
  exact rule i t s _ _ ⟨.int (g i), H, I.tok _, ⟨_, rfl⟩, q⟩
theorem un_neg : UnR X (unaryOp .USub) (rU fun i => .int (-i)) := unI fun _ _ _ _ _ q => neg_int q
end
def scal : V -> V -> Bool
  | .non, .non => true | .non, .int _ => true | .int _, .non => true | .non, .bl _ => true | .bl _, .non => true | .non, .str _ => true | .str _, .non => true
  | .int _, .int _ => true | .bl _, .bl _ => true | .str _, .str _ => true | .byt _, .byt _ => true
  | .int _, .str _ => true | .str _, .int _ => true | .bl _, .str _ => true | .str _, .bl _ => true
  | _, _ => false
def rEq : R2 := fun x y H Q => scal x y = true /\ Q (.bl (decide (x = y))) H
def rNe : R2 := fun x y H Q => scal x y = true /\ Q (.bl (!decide (x = y))) H
theorem dec_int {i j : Int} : decide (V.int i = V.int j) = (i == j) := by
  rw [Bool.eq_iff_iff]
  simp
theorem dec_bl {i j : Bool} : decide (V.bl i = V.bl j) = (i == j) := by
  rw [Bool.eq_iff_iff]
  simp
theorem dec_str {i j : Str} : decide (V.str i = V.str j) = (i == j) := by
  rw [Bool.eq_iff_iff]
  simp
theorem dec_byt {i j : Array UInt8} : decide (V.byt i = V.byt j) = (i.toList == j.toList) := by
  rw [Bool.eq_iff_iff]
  cases i
  cases j
  simp
section
variable {X : Cx} {a b c : Expr} {ta tb tc : TE} {pos : Pos}
theorem fin_bl {pins : List (Addr × Obj)} {σ : St} {H : Hp} {s : Shared} {Q : VK} {k k' : Bool} (I : Inv X pins σ H s) (q : Q (.bl k) H) (e : k = k') : EP X pins σ Q (.bool k') s := by
  subst e
  exact ⟨.bl k, H, I, rfl, q⟩
theorem op_eq : OpR X (compareOp .Eq) rEq := by
  intro pins s σ H x y v u Q I rx ry h
  obtain ⟨hs, q⟩ := h
  cases x with
  | non =>
    cases rx
    cases y with
    | non => cases ry; exact PySem.EqNone.eq_none_none (fin_bl I q (by simp))
    | bl j => cases ry; exact PySem.EqNone.eq_none_bool (fin_bl I q (by simp))
    | int j => obtain ⟨t', rfl⟩ := ry; exact PySem.EqNone.eq_none_int (fin_bl I q (by simp))
    | str j => obtain ⟨t', rfl⟩ := ry; exact PySem.EqNone.eq_none_str (fin_bl I q (by simp))
    | _ => exact absurd (show false = true from hs) Bool.false_ne_true
  | bl i =>
    cases rx
    cases y with
    | non => cases ry; exact PySem.EqNone.eq_bool_none (fin_bl I q (by simp))
    | bl j => cases ry; exact eq_bool (fin_bl I q dec_bl)
    | str j => obtain ⟨t', rfl⟩ := ry; exact PySem.EqMixed.eq_bool_str (fin_bl I q (by simp))
    | _ => exact absurd (show false = true from hs) Bool.false_ne_true
  | int i =>
    obtain ⟨t, rfl⟩ := rx
    cases y with
    | non => cases ry; exact PySem.EqNone.eq_int_none (fin_bl I q (by simp))
    | int j => obtain ⟨t', rfl⟩ := ry; exact eq_int (fin_bl I q dec_int)
    | str j => obtain ⟨t', rfl⟩ := ry; exact PySem.EqMixed.eq_int_str (fin_bl I q (by simp))
    | _ => exact absurd (show false = true from hs) Bool.false_ne_true
  | str i =>
    obtain ⟨t, rfl⟩ := rx
    cases y with
    | non => cases ry; exact PySem.EqNone.eq_str_none (fin_bl I q (by simp))
    | bl j => cases ry; exact PySem.EqMixed.eq_str_bool (fin_bl I q (by simp))
    | int j => obtain ⟨t', rfl⟩ := ry; exact PySem.EqMixed.eq_str_int (fin_bl I q (by simp))
    | str j => obtain ⟨t', rfl⟩ := ry; exact eq_str (fin_bl I q dec_str)
    | _ => exact absurd (show false = true from hs) Bool.false_ne_true
  | byt i =>
    obtain ⟨t, rfl⟩ := rx
    cases y with
    | byt j => obtain ⟨t', rfl⟩ := ry; exact PySem.W.eq_bytes (fin_bl I q dec_byt)
    | _ => exact absurd (show false = true from hs) Bool.false_ne_true
  | _ => cases y <;> exact absurd (show false = true from hs) Bool.false_ne_true
theorem op_ne : OpR X (compareOp .NotEq) rNe := by
  intro pins s σ H x y v u Q I rx ry h
  obtain ⟨hs, q⟩ := h
  cases x with
  | non =>
    cases rx
    cases y with
    | non => cases ry; exact PySem.EqNone.ne_none_none (fin_bl I q (by simp))
    | bl j => cases ry; exact PySem.EqNone.ne_none_bool (fin_bl I q (by simp))
    | int j => obtain ⟨t', rfl⟩ := ry; exact PySem.EqNone.ne_none_int (fin_bl I q (by simp))
    | str j => obtain ⟨t', rfl⟩ := ry; exact PySem.EqNone.ne_none_str (fin_bl I q (by simp))
    | _ => exact absurd (show false = true from hs) Bool.false_ne_true
  | bl i =>
    cases rx
    cases y with
    | non => cases ry; exact PySem.EqNone.ne_bool_none (fin_bl I q (by simp))
    | bl j => cases ry; exact ne_bool (fin_bl I q (congrArg not dec_bl))
    | str j => obtain ⟨t', rfl⟩ := ry; exact PySem.EqMixed.ne_bool_str (fin_bl I q (by simp))
    | _ => exact absurd (show false = true from hs) Bool.false_ne_true
  | int i =>
    obtain ⟨t, rfl⟩ := rx
    cases y with
    | non => cases ry; exact PySem.EqNone.ne_int_none (fin_bl I q (by simp))
    | int j => obtain ⟨t', rfl⟩ := ry; exact ne_int (fin_bl I q (congrArg not dec_int))
    | str j => obtain ⟨t', rfl⟩ := ry; exact PySem.EqMixed.ne_int_str (fin_bl I q (by simp))
    | _ => exact absurd (show false = true from hs) Bool.false_ne_true
  | str i =>
    obtain ⟨t, rfl⟩ := rx
    cases y with
    | non => cases ry; exact PySem.EqNone.ne_str_none (fin_bl I q (by simp))
    | bl j => cases ry; exact PySem.EqMixed.ne_str_bool (fin_bl I q (by simp))
    | int j => obtain ⟨t', rfl⟩ := ry; exact PySem.EqMixed.ne_str_int (fin_bl I q (by simp))
    | str j => obtain ⟨t', rfl⟩ := ry; exact ne_str (fin_bl I q (congrArg not dec_str))
    | _ => exact absurd (show false = true from hs) Bool.false_ne_true
  | byt i =>
    obtain ⟨t, rfl⟩ := rx
    cases y with
    | byt j => obtain ⟨t', rfl⟩ := ry; exact PySem.W.ne_bytes (fin_bl I q (congrArg not dec_byt))
    | _ => exact absurd (show false = true from hs) Bool.false_ne_true
  | _ => cases y <;> exact absurd (show false = true from hs) Bool.false_ne_true
theorem op_lt : OpR X (compareOp .Lt) (rI0 fun i j => .bl (decide (i < j))) := opB0 fun _ _ _ _ _ _ _ q => lt_int q
theorem op_gt : OpR X (compareOp .Gt) (rI0 fun i j => .bl (decide (j < i))) := opB0 fun _ _ _ _ _ _ _ q => gt_int q
theorem op_isN : OpR X (compareOp .Is) (fun x y H Q => y = .non /\ Q (.bl (decide (x = .non))) H) := by
  intro pins s σ H x y v u Q I rx ry h
  obtain ⟨rfl, q⟩ := h
  cases ry
  refine is_none_gen (fin_bl I q ?_)
  cases x <;> first
    | (cases rx; rfl)
    | (obtain ⟨t, rfl⟩ := rx; rfl)
theorem OpR.or {f : Value -> Value -> Sem Value} {r r' : R2} (h : OpR X f r) (h' : OpR X f r') : OpR X f (fun x y H Q => r x y H Q \/ r' x y H Q) := by
  intro pins s σ H x y v u Q I rx ry q
  rcases q with q | q
  · exact h pins s σ H x y v u Q I rx ry q
  · exact h' pins s σ H x y v u Q I rx ry q
theorem nomark (b : Expr) {op : CmpOp} (h : op ≠ .In := by decide) (h2 : op ≠ .NotIn := by decide) : behindInMarks op b = false := by
  have e1 : (op == CmpOp.In) = false := by cases op <;> first | rfl | exact absurd rfl h
  have e2 : (op == CmpOp.NotIn) = false := by cases op <;> first | rfl | exact absurd rfl h2
  cases b <;> simp [behindInMarks, e1, e2]
theorem pe_cmpR {op : CmpOp} {r : R2} (ho : OpR X (compareOp op) r) (ha : PE X a ta) (hb : PE X b tb) (hm : behindInMarks op b = false) : PE X (.Compare a [op] [b] pos) (tOp r ta tb) := by
  intro pins s σ H Q I h
  exact wpAny_Compare1 (binT ha hb I h fun v u s2 x y H2 I2 rx ry q => ho pins s2 σ H2 x y v u Q I2 rx ry q) hm
def tTest (t : TE) : TT := fun σ H Q => t σ H fun x H' => ∃ k, x = .bl k /\ Q k H'
theorem pt_cmpR {op : CmpOp} {r : R2} (ho : OpR X (compareOp op) r) (ha : PE X a ta) (hb : PE X b tb) (hm : behindInMarks op b = false) : PT X (.Compare a [op] [b] pos) (tTest (tOp r ta tb)) := by
  intro pins s σ H Q I h
  refine wpAny_isTrue_Compare1 (thn (ha pins s σ H _ I h) fun v s1 ⟨x, H1, I1, r1, q1⟩ => thn (hb pins s1 σ H1 _ I1 q1) fun u s2 ⟨y, H2, I2, r2, q2⟩ =>
    thn (ho pins s2 σ H2 x y v u _ I2 r1 r2 q2) fun c s3 ⟨z, H3, I3, r3, k, e, q3⟩ => ?_) hm
  subst e
  cases r3
  exact wpAny_truthy_bool ⟨H3, I3, q3⟩
def TruV (K : PySem.W.Frag) (x : V) (H : Hp) (k : Bool) : Prop :=
  match x with
  | .non => k = false
  | .bl b => k = b
  | .int i => k = (i != 0)
  | .str y => y.length <= sizeLine /\ k = ((y.length : Int) != 0)
  | .byt y => y.size <= sizeLine /\ k = ((y.size : Int) != 0)
  | .ref p => (∃ xs, SqL K H p xs /\ k = !xs.isEmpty) \/ (∃ xs, SqT K H p xs /\ k = !xs.isEmpty) \/ ∃ kvs, H p = some (.dK kvs) /\ k = !kvs.isEmpty
  | _ => False
theorem isEmpty_kv {κ : Type} {kvs : List (κ × V)} {vs : List (κ × Value)} (r : KV kvs vs) : (!vs.isEmpty) = !kvs.isEmpty := by
  cases r <;> rfl
theorem isEmpty_of {xs : List V} {its : List Value} (r : Vals xs its) : (!its.toArray.isEmpty) = !xs.isEmpty := by
  cases r <;> simp
theorem line63 : (sizeLine : Nat) < 2 ^ 63 := by rw [sizeLine_eq]; decide
theorem tru_ok : TruR X (fun x H Q => ∃ k, TruV X.K x H k /\ Q k H) := by
  intro pins s σ H x v Q I rx h
  obtain ⟨k, e, q⟩ := h
  have hl := line63
  have hs : sizeLine = 16777216 := sizeLine_eq
  cases x with
  | non =>
    cases rx
    have e' : k = false := e
    subst e'
    exact truthy_none ⟨H, I, q⟩
  | bl b =>
    cases rx
    have e' : k = b := e
    subst e'
    exact wpAny_truthy_bool ⟨H, I, q⟩
  | int i =>
    obtain ⟨t, rfl⟩ := rx
    have e' : k = (i != 0) := e
    subst e'
    exact PySem.P.truthy_int ⟨H, I, q⟩
  | str y =>
    obtain ⟨t, rfl⟩ := rx
    obtain ⟨hy, e'⟩ : y.length <= sizeLine /\ k = ((y.length : Int) != 0) := e
    subst e'
    exact PySem.P.truthy_str (by lia) ⟨H, I.tok _, q⟩
  | byt y =>
    obtain ⟨t, rfl⟩ := rx
    obtain ⟨hy, e'⟩ : y.size <= sizeLine /\ k = ((y.size : Int) != 0) := e
    subst e'
    exact PySem.W.truthy_bytes (by lia) ⟨H, I.tok _, q⟩
  | ref p =>
    cases rx
    have e' : (∃ xs, SqL X.K H p xs /\ k = !xs.isEmpty) \/ (∃ xs, SqT X.K H p xs /\ k = !xs.isEmpty) \/ ∃ kvs, H p = some (.dK kvs) /\ k = !kvs.isEmpty := e
    rcases e' with ⟨xs, hx, e'⟩ | ⟨xs, hx, e'⟩ | ⟨kvs, hx, e'⟩
    · subst e'
      obtain ⟨its, r, pl, hz⟩ := I.list hx
      have hlen := r.length
      exact wpAny_truthy_list pl.isList (by simp only [List.size_toArray]; lia) ⟨H, I.tok _, by rw [isEmpty_of r]; exact q⟩
    · subst e'
      obtain ⟨its, r, pl, hz⟩ := I.tuple hx
      have hlen := r.length
      exact truthy_tuple pl (by simp only [List.size_toArray]; lia) ⟨H, I.tok _, by rw [isEmpty_of r]; exact q⟩
    · subst e'
      obtain ⟨hz, hS, vs, r, m⟩ : kvs.length <= sizeLine /\ (p == sysModules) = false /\ ∃ vs, KV kvs vs /\ s.heap.DictOf (mixKind X.prog X.w) p vs := I.hok p _ hx
      have hlen : kvs.length = vs.length := Paired.length r
      exact wpAny_truthy_dict hS m (by lia) ⟨H, I.tok _, by rw [isEmpty_kv r]; exact q⟩
  | _ => exact (show False from e).elim
theorem pt_truth (ha : PE X a ta) (he : ∀ whole, isTrue a X.env whole = (do let v <- whole; standAt a.pos; holding [v] (truthy v))) :
    PT X a (fun σ H Q => ta σ H fun x H' => ∃ k, TruV X.K x H' k /\ Q k H') := by
  intro pins s σ H Q I h
  exact isTrue_plain (thn (ha pins s σ H _ I h) fun v s1 ⟨x, H1, I1, r1, q1⟩ => tru_ok pins s1 σ H1 x v Q I1 r1 q1) (he _)
theorem vals1 {x : V} {us : List Value} (r : Vals [x] us) : ∃ u, us = [u] /\ RelV x u := by
  cases r with
  | cons r1 r2 => cases r2; exact ⟨_, rfl, r1⟩
theorem vals2 {x y : V} {us : List Value} (r : Vals [x, y] us) : ∃ u w', us = [u, w'] /\ RelV x u /\ RelV y w' := by
  cases r with
  | cons r1 r2 =>
    cases r2 with
    | cons r3 r4 => cases r4; exact ⟨_, _, rfl, r1, r3⟩
theorem call_max2 (hc : X.calm = true) : CallR X (.builtin "max") (fun xs H Q => ∃ i j, xs = [.int i, .int j] /\ Q (.int (if j > i then j else i)) H) := by
  intro pins s σ H xs us Q I r h
  obtain ⟨i, j, rfl, q⟩ := h
  obtain ⟨u, w', rfl, ⟨t, rfl⟩, ⟨t', rfl⟩⟩ := vals2 r
  refine max_two_ints (I.ok.hd hc) fun h' tk k => ⟨_, H, I.kept k, ?_, q⟩
  by_cases hj : j > i
  · rw [if_pos hj, if_pos hj]; exact ⟨_, rfl⟩
  · rw [if_neg hj, if_neg hj]; exact ⟨_, rfl⟩
theorem call_min2 (hc : X.calm = true) : CallR X (.builtin "min") (fun xs H Q => ∃ i j, xs = [.int i, .int j] /\ Q (.int (if j < i then j else i)) H) := by
  intro pins s σ H xs us Q I r h
  obtain ⟨i, j, rfl, q⟩ := h
  obtain ⟨u, w', rfl, ⟨t, rfl⟩, ⟨t', rfl⟩⟩ := vals2 r
  refine min_two_ints (I.ok.hd hc) fun h' tk k => ⟨_, H, I.kept k, ?_, q⟩
  by_cases hj : j < i
  · rw [if_pos hj, if_pos hj]; exact ⟨_, rfl⟩
  · rw [if_neg hj, if_neg hj]; exact ⟨_, rfl⟩
theorem call_str_int : CallR X (.type "str") (fun xs H Q => ∃ i, xs = [.int i] /\ i.natAbs.log2 < 1920 /\ Q (.str (toString i)) H) := by
  intro pins s σ H xs us Q I r h
  obtain ⟨i, rfl, hz, q⟩ := h
  obtain ⟨u, rfl, t, rfl⟩ := vals1 r
  exact PySem.P.str_of_int hz ⟨.str _, H, I.tok _, ⟨_, rfl⟩, q⟩
end
structure ObjM (h : Heap) (x dx C : Addr) (mA : Str -> Option Value) : Prop where
  obj : h.get? x = some (PySem.W.instObj C dx)
  ns : h.Ns1 dx mA
  ne : dx ≠ x
theorem lookIn_ns {h : Heap} {dx : Addr} {mA : Str -> Option Value} (n : h.Ns1 dx mA) : ∃ od, h.get? dx = some od /\ ∀ name, PySem.W.lookIn name od = some (mA name) := by
  obtain ⟨o, es, ep, ho, hd, hk, _, hm⟩ := n
  refine ⟨o, ho, fun name => ?_⟩
  have e := hm name
  unfold nsFind findBy at e
  rw [<- Array.find?_toList] at e
  unfold PySem.W.lookIn
  rw [hd]
  dsimp only
  split
  · rename_i y q
    rw [q] at e
    exact congrArg some e
  · rename_i q
    rw [q] at e
    have a : es.toList.any (·.refKey) = false := by
      rw [List.any_eq_false]
      intro y hy
      obtain ⟨z, t, hkey⟩ := hk y (Array.mem_toList_iff.mp hy)
      simp [DictEntry.refKey, hkey]
    have a' : ¬ es.toList.any (·.refKey) = true := by rw [a]; exact Bool.false_ne_true
    rw [if_neg a']
    exact congrArg some e
theorem ObjM.look {h : Heap} {x dx C : Addr} {mA : Str -> Option Value} (I : ObjM h x dx C mA) : ∃ od, PySem.W.InstAt h x (PySem.W.instObj C dx) C (some od) /\ ∀ name, PySem.W.lookIn name od = some (mA name) :=
  let ⟨od, ho, hl⟩ := lookIn_ns I.ns
  ⟨od, ⟨I.obj, rfl, rfl, ho⟩, hl⟩
section
variable {prog : Program} {w : World} {A : Around} {E : Value -> Shared -> Prop} {s : Shared} {K : PySem.W.Frag} {x dx C f : Addr} {mA : Str -> Option Value} {name : Str} {v : Value}
end
theorem RelO.some_of {v : V} {o : Option Value} (r : RelO (some v) o) : ∃ u, o = some u /\ RelV v u := by
  cases o with
  | none => exact (show False from r).elim
  | some u => exact ⟨u, rfl, r⟩
section
variable {P : Program} {w : World} {H H' : Hp} {h h' : Heap} {a C dx : Addr} {fs fs' : List (Str × V)}
theorem ins_get (hok : HOk P w H h) (e : H a = some (.ins C dx fs)) : ∃ mA, ObjM h a dx C mA /\ (∀ f, RelO (fs.lookup f) (mA f)) /\ PySem.Within mA (fs.map (·.1)) /\ fs.length <= 1000 /\ H dx = some (.own a) := by
  obtain ⟨d, z, ne, ob, mA, n, r, q⟩ := (show ObjOk P w H h a (.ins C dx fs) from hok a _ e)
  exact ⟨mA, ⟨ob, n, ne⟩, r, q, z, d⟩
end
structure Cls (K : PySem.W.Frag) (C : Addr) : Prop where
  pg : PySem.W.plainGet K C Str.empty = true
  hd : PySem.W.hasDictIn K C = true
  po : PySem.W.plainOver K C = true
  sa : PySem.W.findIn K (.ref C) "__setattr__" = some (some (.builtin "object.__setattr__"))
theorem Cls.get {K : PySem.W.Frag} {C : Addr} (c : Cls K C) (f : Str) : PySem.W.plainGet K C f = true := c.pg
section
variable {X : Cx} {pins : List (Addr × Obj)} {σ : St} {H : Hp} {s : Shared} {a C dx : Addr} {fs : List (Str × V)} {f : Str} {v : V} {A : Around} {E : Value -> Shared -> Prop}
end
section
variable {X : Cx} {o e value : Expr} {f : Str} {pos pos' tpos : Pos} {ta tv : TE}
end
section
variable {X : Cx} {pins : List (Addr × Obj)} {σ : St} {H : Hp} {s : Shared} {A : Around} {E : Value -> Shared -> Prop} {Q : Value -> Shared -> Prop} {c : Value} {b : Bool}
inductive TyOf (K : PySem.W.Frag) (H : Hp) : V -> Value -> Prop where
  | non : TyOf K H .non (.type "NoneType")
  | bl (x : Bool) : TyOf K H (.bl x) (.type "bool")
  | int (i : Int) : TyOf K H (.int i) (.type "int")
  | str (x : Str) : TyOf K H (.str x) (.type "str")
  | flt (x : UInt64) : TyOf K H (.flt x) (.type "float")
  | lst {a : Addr} {xs : List V} (e : H a = some (.lst xs)) : TyOf K H (.ref a) (.type "list")
  | frz {a : Addr} {o : Obj} {xs : List V} (e : H a = some (.frz o (.lst xs))) : TyOf K H (.ref a) (.type "list")
  | tup {a : Addr} {xs : List V} (e : H a = some (.tup xs)) : TyOf K H (.ref a) (.type "tuple")
  | dK {a : Addr} {kvs : List (Key × V)} (e : H a = some (.dK kvs)) : TyOf K H (.ref a) (.type "dict")
  | dT {a : Addr} {kvs : List (List Key × V)} (e : H a = some (.dT kvs)) : TyOf K H (.ref a) (.type "dict")
  | ins {a C dx : Addr} {fs : List (Str × V)} (e : H a = some (.ins C dx fs)) (cl : Cls K C) (ha : PySem.W.findIn K (.ref C) "__class__" = some (some (.builtin "object.__class__")))
      (hn : PySem.W.specialIn K (.builtin "object.__class__") "__get__" = some (some (.builtin "getset_descriptor.__get__"))) (htk : PySem.W.takesIn K (.builtin "object.__class__") = some true)
      (hm : PySem.W.mroIn K C (.type "object") = some true) : TyOf K H (.ref a) (.ref C)
theorem isinst_ok {x : V} {u t : Value} (I : Inv X pins σ H s) (rx : RelV x u) (ty : TyOf X.K H x t) (e : PySem.W.kitOne X.K t c = some b) (h : ∀ tk, Q (.bool b) { s with toks := tk }) :
    wpAny (model X.prog X.w) A (call (.builtin "isinstance") [u, c]) Q E s := by
  cases ty with
  | non => cases (show u = Value.none from rx); exact PySem.W.kia_one PySem.W.kitx_none I.kIn True.intro e (fun z => nomatch z) h
  | bl y => cases (show u = Value.bool y from rx); exact PySem.W.kia_one PySem.W.kitx_bool I.kIn True.intro e (fun z => nomatch z) h
  | int i => obtain ⟨t, q⟩ := (show ∃ t, u = Value.int i t from rx); cases q; exact PySem.W.kia_one PySem.W.kitx_int I.kIn True.intro e (fun z => nomatch z) h
  | str y => obtain ⟨t, q⟩ := (show ∃ t, u = Value.str y t from rx); cases q; exact PySem.W.kia_one PySem.W.kitx_str I.kIn True.intro e (fun z => nomatch z) h
  | flt y => obtain ⟨t, q⟩ := (show ∃ t, u = Value.float y t from rx); cases q; exact PySem.W.kia_one PySem.W.kitx_float I.kIn True.intro e (fun z => nomatch z) h
  | @lst a xs ea =>
    cases (show u = Value.ref a from rx)
    obtain ⟨_, _, n, _, h1⟩ := (show ObjOk X.prog X.w H s.heap a (.lst xs) from I.hok a _ ea)
    exact PySem.W.kia_one PySem.W.kitx_list I.kIn ⟨_, h1, rfl⟩ e (fun z => nomatch z) h
  | @frz a ob xs ea =>
    cases (show u = Value.ref a from rx)
    obtain ⟨_, _, _, n, _, h1⟩ := (show ObjOk X.prog X.w H s.heap a (.frz ob (.lst xs)) from I.hok a _ ea)
    exact PySem.W.kia_one PySem.W.kitx_list I.kIn ⟨_, h1, rfl⟩ e (fun z => nomatch z) h
  | @tup a xs ea =>
    cases (show u = Value.ref a from rx)
    obtain ⟨_, _, _, p⟩ := (show ObjOk X.prog X.w H s.heap a (.tup xs) from I.hok a _ ea)
    obtain ⟨o, h1, h2, _⟩ := p
    exact PySem.W.kia_one PySem.W.kitx_tuple I.kIn ⟨o, h1, h2⟩ e (fun z => nomatch z) h
  | @dK a kvs ea =>
    cases (show u = Value.ref a from rx)
    obtain ⟨_, _, vs, _, p⟩ := (show ObjOk X.prog X.w H s.heap a (.dK kvs) from I.hok a _ ea)
    obtain ⟨o, es, ep, h1, h2, _⟩ := p
    exact PySem.W.kia_one PySem.W.kitx_dict I.kIn ⟨o, h1, h2.1⟩ e (fun z => nomatch z) h
  | @dT a kvs ea =>
    cases (show u = Value.ref a from rx)
    obtain ⟨_, _, xs, _, o, es, ep, h1, h2, _⟩ := (show ObjOk X.prog X.w H s.heap a (.dT kvs) from I.hok a _ ea)
    exact PySem.W.kia_one PySem.W.kitx_dict I.kIn ⟨o, h1, h2.1⟩ e (fun z => nomatch z) h
  | @ins a C dx fs ea cl ha hn htk hm =>
    cases (show u = Value.ref a from rx)
    obtain ⟨mA, O, _⟩ := ins_get I.hok ea
    obtain ⟨od, J, _⟩ := O.look
    exact PySem.W.kia_one (PySem.W.kitx_own (cl.get _) cl.hd ha hn htk hm) I.kIn J e (fun z => nomatch z) h
end
structure Room (k : Nat) (A : Around) : Prop where
  hd : A.handled = none
  dp : A.depth + 3 * k + 5 < recursionLimit
  un : A.units + 16 * k + 200 < cLine
theorem Room.mono {j k : Nat} {A : Around} (r : Room k A) (h : j <= k) : Room j A := ⟨r.hd, by have := r.dp; lia, by have := r.un; lia⟩
theorem Room.deeper {k : Nat} {A : Around} (r : Room (k + 1) A) (env : Env) : Room k (A.deeper env) :=
  ⟨r.hd, by have := r.dp; show A.depth + 1 + 3 * k + 5 < _; lia, by have := r.un; show A.units + 3 + 16 * k + 200 < _; lia⟩
theorem Room.depth {k : Nat} {A : Around} (r : Room k A) : A.depth < recursionLimit := by have := r.dp; lia
theorem Room.units {k : Nat} {A : Around} (r : Room k A) : A.units + 64 < cLine := by have := r.un; lia
def tNil : TA := fun _ H Q => Q [] H
def tCons (ta : TE) (tr : TA) : TA := fun σ H Q => ta σ H fun x H1 => tr σ H1 fun xs H2 => Q (x :: xs) H2
section
variable {X : Cx} {e : Expr} {es : List Expr} {te : TE} {t : TA} {pos : Pos}
theorem pa_nil : PA X [] tNil := fun _ _ _ _ H Q I h => Calls.spliced_nil ⟨[], H, I, .nil, h⟩
theorem pa_cons (ha : PE X e te) (hr : PA X es t) (hs : starEach (e :: es) X.env = (false, eval e X.env) :: starEach es X.env := by rfl) : PA X (e :: es) (tCons te t) := by
  intro pos pins s σ H Q I h
  rw [hs]
  show wpAny _ _ (spliced ((false, eval e X.env) :: backTo pos (starEach es X.env))) _ _ s
  refine Calls.spliced_cons (thn (ha pins s σ H _ I h) fun u s1 ⟨x, H1, I1, r1, q1⟩ => ?_)
  exact thn (hr pos pins s1 σ H1 _ I1 q1) fun us s2 ⟨xs, H2, I2, r2, q2⟩ => ⟨x :: xs, H2, I2, .cons r1 r2, q2⟩
def tTup (t : TA) : TE := fun σ H Q => t σ H fun xs H1 => xs.length <= sizeLine /\ ∀ p, H1 p = none -> Q (.ref p) (upd H1 p (.tup xs))
def tLst (t : TA) : TE := fun σ H Q => t σ H fun xs H1 => xs.length <= sizeLine /\ ∀ p, H1 p = none -> Q (.ref p) (upd H1 p (.lst xs))
theorem pe_tup {x1} (h : PA X es t) : PE X (.Tuple es x1 pos) (tTup t) := by
  intro pins s σ H Q I hq
  refine wpAny_Tuple_spliced (thn (h pos pins s σ H _ I hq) fun us s1 ⟨xs, H1, I1, r, z, q⟩ => ⟨by rw [<- r.length]; exact z, ?_⟩)
  have hf : H1 s1.heap.objs.size = none := I1.hok.fresh (Nat.le_refl _)
  refine ⟨.ref s1.heap.objs.size, upd H1 s1.heap.objs.size (.tup xs), I1.laid (t' := s1.toks) (fun b u e => Heap.get?_push_of_some _ e) (Nat.le_refl _) ?_, rfl, q _ hf⟩
  exact ⟨z, us, r, ⟨_, Heap.get?_push_size _ rfl, rfl, _, rfl⟩⟩
theorem pe_lst (h : PA X es t) : PE X (.List es pos) (tLst t) := by
  intro pins s σ H Q I hq
  refine wpAny_List_spliced (thn (h pos pins s σ H _ I hq) fun us s1 ⟨xs, H1, I1, r, z, q⟩ => ⟨by rw [<- r.length]; exact z, ?_⟩)
  have hf : H1 s1.heap.objs.size = none := I1.hok.fresh (Nat.le_refl _)
  refine ⟨.ref s1.heap.objs.size, upd H1 s1.heap.objs.size (.lst xs), I1.laid (t' := s1.toks) (fun b u e => Heap.get?_push_of_some _ e) (Nat.le_refl _) ?_, rfl, q _ hf⟩
  exact ⟨z, us, 0, r, Heap.get?_push_size _ rfl⟩
end
abbrev Sp := List V -> Hp -> VK -> XK -> Prop
abbrev CXT := List Env -> Hp -> Shared -> XK -> Value -> Shared -> Prop
structure Env0 (P : Program) (w : World) (K : PySem.W.Frag) (mg : Str -> Option Value) (base : Heap) (A : Around) (outer : List Env) (s : Shared) (H : Hp) : Prop where
  frames : A.frames = some outer
  mod : Mod K mg base
  bs : ∀ b o, base.get? b = some o -> s.heap.get? b = some o /\ H b = none
  bsz : base.objs.size <= s.heap.objs.size
  funs : s.heap.FunFrames base outer
  frf : ∀ b ∈ frs outer, H b = none
  hok : HOk P w H s.heap
  bare : AllBare s.gens
def CE (outer : List Env) (P : Program) (w : World) (H : Hp) (s : Shared) (Q : VK) (u : Value) (s' : Shared) : Prop :=
  ∃ v H', s'.os = s.os /\ AllBare s'.gens /\ Un (frs outer) [] H H' s.heap s'.heap /\ HOk P w H' s'.heap /\ RelV v u /\ Q v H'
def CR (CX : CXT) (outer : List Env) (P : Program) (w : World) (H : Hp) (s : Shared) (Q : VK) (E : XK) (r : Result) (s' : Shared) : Prop :=
  match r with
  | .ok (.ret u) => CE outer P w H s Q u s'
  | .ok _ => False
  | .error e => CX outer H s E e s'
structure FnOk (P : Program) (w : World) (K : PySem.W.Frag) (mg : Str -> Option Value) (base : Heap) (CX : CXT) (k : Nat) (f : Addr) (fd : FuncData) (ps : List Str) (sp : Sp) : Prop where
  len : ∀ vs H Q E, sp vs H Q E -> vs.length = ps.length
  run : ∀ (A : Around) (outer : List Env) (s : Shared) (H : Hp) (args : Args) (us : List Value) (vs : List V) (Q : VK) (E : XK), Room k A -> Env0 P w K mg base A outer s H -> BindsTo s fd args (ps.zip us) -> Vals vs us -> sp vs H Q E ->
    codeAny (model P w) A (.call (.ref f) args) (CR CX outer P w H s Q E) s
section
variable {X : Cx} {pins : List (Addr × Obj)} {σ : St} {H : Hp} {s s' : Shared}
theorem Inv.env0 (I : Inv X pins σ H s) : Env0 X.prog X.w X.K X.mg X.base X.A X.stack s H :=
  ⟨I.ok.frames, I.ok.mod, I.bs, Nat.le_trans I.ok.bsz I.sz, I.stack, I.stkFree, I.hok, I.bare⟩
theorem Inv.after {Q : VK} {u : Value} (I : Inv X pins σ H s) (h : CE X.stack X.prog X.w H s Q u s') : EP X pins σ Q u s' := by
  obtain ⟨v, H', os, bare, un, hok, r, q⟩ := h
  obtain ⟨hh, g, d, t, os'⟩ := s'
  obtain rfl : os' = s.os := os
  exact ⟨v, H', I.call (h' := hh) (g' := g) (d' := d) (t' := t) (ch := []) un hok bare (fun b z => absurd z (by simp)), r, q⟩
end
def tCall (sp : Sp) (dvs : List V) (E : XK) (t : TA) : TE := fun σ H Q => t σ H fun vs H1 => sp (vs ++ dvs) H1 Q E
def Binds (K : PySem.W.Frag) (fd : FuncData) (ps : List Str) (ds : List Value) : Prop :=
  ∀ (s : Shared) (us : List Value), K.In s.heap -> (us ++ ds).length = ps.length -> BindsTo s fd ⟨us, []⟩ (ps.zip (us ++ ds))
theorem Binds.all {K : PySem.W.Frag} {fd : FuncData} {ps : List Str} (h : ∀ us : List Value, us.length = ps.length -> bindArgs fd ⟨us, []⟩ = pure (ps.zip us)) : Binds K fd ps [] := fun s us _ hl => by
  rw [List.append_nil] at hl ⊢
  exact .of_eq (h us hl)
def Passes (CX : CXT) (X : Cx) (E : XK) : Prop := ∀ (pins : List (Addr × Obj)) (σ : St) (H : Hp) (s : Shared) (e : Value) (s' : Shared), Inv X pins σ H s -> CX X.stack H s E e s' -> X.xe e s'
section
variable {X : Cx} {CX : CXT} {k : Nat} {f C : Addr} {fd : FuncData} {ps : List Str} {sp : Sp} {dvs : List V} {ds : List Value} {E : XK} {x m : Str} {p pos apos : Pos} {e o : Expr} {es : List Expr} {ta : TE} {t : TA}
theorem run_fn {pins : List (Addr × Obj)} {σ : St} {H : Hp} {s : Shared} {Q : VK} {us : List Value} {vs : List V} (F : FnOk X.prog X.w X.K X.mg X.base CX k f fd ps sp) (hr : Room k X.A) (hb : Binds X.K fd ps ds) (hd : Vals dvs ds) (hx : Passes CX X E)
    (I : Inv X pins σ H s) (r : Vals vs us) (h : sp (vs ++ dvs) H Q E) : wpAny (model X.prog X.w) X.A (call (.ref f) us) (EP X pins σ Q) X.xe s := by
  have r2 : Vals (vs ++ dvs) (us ++ ds) := r.append hd
  have hl : (us ++ ds).length = ps.length := by rw [<- r2.length]; exact F.len _ _ _ _ h
  refine wpAny_call (codeAny_mono (F.run X.A X.stack s H ⟨us, []⟩ (us ++ ds) (vs ++ dvs) Q E hr I.env0 (hb s us I.kIn hl) r2 h) fun r s' hq => ?_)
  cases r with
  | error e => exact hx pins σ H s e s' I hq
  | ok fl =>
    cases fl with
    | ret u => exact I.after hq
    | next => exact False.elim hq
    | brk => exact False.elim hq
    | cont => exact False.elim hq
theorem pe_call (F : FnOk X.prog X.w X.K X.mg X.base CX k f fd ps sp) (hr : Room k X.A) (hg : Gl X x) (hm : X.mg x = some (.ref f)) (hk : PySem.W.keepIn X.K (.ref f) = true) (hb : Binds X.K fd ps ds) (hd : Vals dvs ds) (hx : Passes CX X E)
    (ha : PA X (e :: es) t) (hdb : (x == ("__debug__" : Str)) = false := by decide) (he : starEach (e :: es) X.env = (false, eval e X.env) :: starEach es X.env := by rfl) (hpl : (backTo pos (starEach es X.env)).any (·.1) = false := by rfl) :
    PE X (.Call (.Name x p) (e :: es) [] pos) (tCall sp dvs E t) := by
  intro pins s σ H Q I h
  refine wpAny_Call_Name_kw (ld_glob I hg hm ?_ hdb)
  refine PySem.W.callWith_K (h₀ := X.base) I.ok.mod.kin hk (thn (ha pos pins s σ H _ I h) fun us s1 ⟨vs, H1, I1, r, q⟩ => ⟨I1.kIn, ?_⟩) he hpl
  exact run_fn F hr hb hd hx I1 r q
end
section
variable {X : Cx} {CX : CXT} {k : Nat} {f C : Addr} {fd : FuncData} {ps ks : List Str} {sp : Sp} {E : XK} {x m : Str} {p pos apos kpos : Pos} {e o : Expr} {es : List Expr} {kws : List Keyword} {te ta : TE} {t tk : TA} {nm : Option Str}
variable {g : List Value -> List Value -> List Value} {gV : List V -> List V -> List V}
end
structure FnScope (N P : List Str) (sc : Scope) : Prop where
  kind : sc.kind = .function
  co : sc.isCoroutine = false
  gen : sc.isGenerator = false
  nd : N.Nodup
  pre : N.take P.length = P
  par : ∀ x ∈ P, sc.names.lookup x = some .local \/ sc.names.lookup x = some .cell
  nofree : ∀ y ∈ sc.names, y.2 ≠ .free
theorem bindL_out {kindOf : Str -> Option NameKind} {x : Str} : ∀ {binds : List (Str × Value)} {m : Str -> Option Value}, (∀ v, (x, v) ∉ binds) -> bindL kindOf binds m x = m x
  | [], _, _ => rfl
  | (n, v) :: r, m, h => by
    unfold bindL
    rw [bindL_out fun w hw => h w (List.mem_cons_of_mem _ hw)]
    split
    · have : x ≠ n := by rintro rfl; exact h v List.mem_cons_self
      simp [this]
    · rfl
theorem bindC_out {kindOf : Str -> Option NameKind} {x : Str} : ∀ {binds : List (Str × Value)} {m : Str -> Option Value}, (∀ v, (x, v) ∉ binds) -> bindC kindOf binds m x = m x
  | [], _, _ => rfl
  | (n, v) :: r, m, h => by
    unfold bindC
    rw [bindC_out fun w hw => h w (List.mem_cons_of_mem _ hw)]
    split
    · rfl
    · have : x ≠ n := by rintro rfl; exact h v List.mem_cons_self
      simp [this]
theorem bindL_get {kindOf : Str -> Option NameKind} {x : Str} {v : Value} : ∀ {P : List Str} {vs : List Value} {i : Nat} {m : Str -> Option Value}, P.Nodup -> P[i]? = some x -> vs[i]? = some v -> kindOf x = some .local ->
    bindL kindOf (P.zip vs) m x = some v
  | [], _, _, _, _, h, _, _ => by simp at h
  | _ :: _, [], _, _, _, _, h, _ => by simp at h
  | p :: P, w :: vs, 0, m, nd, h1, h2, hk => by
    simp at h1 h2; subst h1; subst h2
    show bindL kindOf ((p, w) :: P.zip vs) m p = _
    unfold bindL
    rw [bindL_out fun v hv => (List.nodup_cons.mp nd).1 (List.of_mem_zip hv).1, if_pos hk]
    simp
  | p :: P, w :: vs, i + 1, m, nd, h1, h2, hk => by
    show bindL kindOf ((p, w) :: P.zip vs) m x = _
    unfold bindL
    exact bindL_get (i := i) (List.nodup_cons.mp nd).2 (by simpa using h1) (by simpa using h2) hk
theorem bindC_get {kindOf : Str -> Option NameKind} {x : Str} {v : Value} : ∀ {P : List Str} {vs : List Value} {i : Nat} {m : Str -> Option Value}, P.Nodup -> P[i]? = some x -> vs[i]? = some v -> kindOf x ≠ some .local ->
    bindC kindOf (P.zip vs) m x = some v
  | [], _, _, _, _, h, _, _ => by simp at h
  | _ :: _, [], _, _, _, _, h, _ => by simp at h
  | p :: P, w :: vs, 0, m, nd, h1, h2, hk => by
    simp at h1 h2; subst h1; subst h2
    show bindC kindOf ((p, w) :: P.zip vs) m p = _
    unfold bindC
    rw [bindC_out fun v hv => (List.nodup_cons.mp nd).1 (List.of_mem_zip hv).1, if_neg hk]
    simp
  | p :: P, w :: vs, i + 1, m, nd, h1, h2, hk => by
    show bindC kindOf ((p, w) :: P.zip vs) m x = _
    unfold bindC
    exact bindC_get (i := i) (List.nodup_cons.mp nd).2 (by simpa using h1) (by simpa using h2) hk
def start (N : List Str) (vs : List V) : St := vs.map some ++ List.replicate (N.length - vs.length) none
def cxOf (CX : CXT) (P : Program) (w : World) (K : PySem.W.Frag) (mg : Str -> Option Value) (base : Heap) (N : List Str) (qual : Str) (scope : Scope) (f : Addr) (cd : Value) (A : Around) (outer : List Env) (s : Shared) (H : Hp) (E : XK) : Cx where
  prog := P
  w := w
  K := K
  mg := mg
  base := base
  A := A.deeper (envOfC qual scope s.heap.objs.size f cd)
  N := N
  s₀ := s
  H₀ := H
  env := envOfC qual scope s.heap.objs.size f cd
  outer := outer
  stack := envOfC qual scope s.heap.objs.size f cd :: outer
  ex := []
  calm := true
  fn := fun _ => true
  pn := []
  xe := fun e s' => wpAny (model P w) (A.deeper (envOfC qual scope s.heap.objs.size f cd)) (leaving (envOfC qual scope s.heap.objs.size f cd) e) (fun _ s'' => CX outer H s E e s'') (fun e' s'' => CX outer H s E e' s'') s'
theorem cell_has {sc : Scope} {n : Nat} {x : Str} (h : sc.names.lookup x = some .cell) : ∃ c, (cellsFrom n sc.names []).lookup x = some c := by
  have q := PySem.W.cellsFrom_some sc.names n [] (.inl h)
  exact Option.isSome_iff_exists.mp q
theorem inv_start {CX : CXT} {P : Program} {w : World} {K : PySem.W.Frag} {mg : Str -> Option Value} {base : Heap} {N ps : List Str} {qual : Str} {scope : Scope} {f : Addr} {cd : Value} {A : Around} {outer : List Env} {s s1 : Shared} {H : Hp} {E : XK} {us : List Value} {vs : List V}
    (S : FnScope N ps scope) (hd : A.handled = none) (e0 : Env0 P w K mg base A outer s H) (hl : vs.length = ps.length) (r : Vals vs us)
    (x : InCallC s s.heap.objs.size (bindL (envOfC qual scope s.heap.objs.size f cd).kindOf (ps.zip us) fun _ => none) (cellsFrom (s.heap.objs.size + 1) scope.names []) (bindC (envOfC qual scope s.heap.objs.size f cd).kindOf (ps.zip us) fun _ => none) s1) :
    Inv (cxOf CX P w K mg base N qual scope f cd A outer s H E) [] (start N vs) H s1 := by
  have hpl : ps.length <= N.length := by have := congrArg List.length S.pre; rw [List.length_take] at this; lia
  obtain ⟨h1, tk, rfl, hk⟩ := x.done
  have noA : ∀ b : Addr, b ∉ (cxOf CX P w K mg base N qual scope f cd A outer s H E).ex := fun b z => absurd (show b ∈ ([] : List Addr) from z) (by simp)
  refine ⟨⟨e0.mod, S.kind, rfl, rfl, Nat.le_refl _, fun y z c h1 h2 => ?_, fun y hy => ?_, fun y c _ h => ?_, fun _ => hd, Around.frames_deeper e0.frames, .inr ⟨rfl, rfl⟩, fun b z => absurd z (noA b), e0.bs, e0.bsz, fun b _ _ => noA b, fun b z => absurd z (noA b), e0.funs, e0.frf⟩,
    rfl, e0.bare, Un.kept hk, ⟨_, x.toInCall.ns, fun i y v h1 h2 h3 => ?_⟩, fun y c h => ⟨_, x.cell y c h⟩, e0.hok.fresh (Nat.le_refl _), fun y c h => ?_, fun p hp => absurd (show p ∈ ([] : List (Addr × Obj)) from hp) (by simp), e0.hok.kept hk, ?_⟩
  · exact name_of_addr x.apart (PySem.mem_of_lookup h1) (PySem.mem_of_lookup h2)
  · have hy : scope.names.lookup y = some .cell \/ scope.names.lookup y = some .free := hy
    rcases hy with hy | hy
    · exact cell_has hy
    · exact absurd rfl (S.nofree _ (PySem.mem_of_lookup hy))
  · exact Nat.le_of_lt (x.above y c (PySem.mem_of_lookup h))
  · have hi : i < vs.length := by
      unfold start at h2
      by_cases hi : i < vs.length
      · exact hi
      · rw [List.getElem?_append_right (by simpa using hi)] at h2
        rw [List.getElem?_replicate] at h2
        split at h2 <;> cases h2
    have ha : vs[i]? = some v := by
      unfold start at h2
      rw [List.getElem?_append_left (by simpa using hi), List.getElem?_map] at h2
      cases e : vs[i]? with
      | none => rw [e] at h2; cases h2
      | some a => rw [e] at h2; cases h2; rfl
    obtain ⟨u, hu, rv⟩ := r.get ha
    have hp : ps[i]? = some y := by
      rw [<- S.pre, List.getElem?_take_of_lt (by lia)]; exact h1
    have ndP : ps.Nodup := by rw [<- S.pre]; exact S.nd.sublist (List.take_sublist _ _)
    refine ⟨u, rv, ?_⟩
    rcases S.par y (List.mem_of_getElem? hp) with k | k
    · exact .inl ⟨k, bindL_get ndP hp hu k⟩
    · obtain ⟨c, e⟩ := cell_has (n := s.heap.objs.size + 1) k
      refine .inr ⟨.inl k, c, e, ?_⟩
      have q := x.cell y c e
      rw [bindC_get ndP hp hu (by show scope.names.lookup y ≠ _; rw [k]; decide)] at q
      exact q
  · exact e0.hok.fresh (Nat.le_of_lt (x.above y c (PySem.mem_of_lookup h)))
  · unfold start
    show _ = N.length
    rw [List.length_append, List.length_map, List.length_replicate]
    lia
theorem fn_of {CX : CXT} {P : Program} {w : World} {K : PySem.W.Frag} {mg : Str -> Option Value} {base : Heap} {k : Nat} {f : Addr} {name qual : Str} {params : Arguments} {body : List Stmt} {scope : Scope} {dV kV doc pm cdv ct oc : Value} {an od : Option Addr}
    {osl : Array (Option Value)} {N ps : List Str} {sp : Sp} (lk : K.lookup f = some ⟨oc, od, .func (PySem.W.fnOf name qual params body scope dV kV doc pm an cdv ct), osl⟩) (hcd : PySem.W.codeIn K cdv qual = true) (S : FnScope N ps scope)
    (len : ∀ vs H Q E, sp vs H Q E -> vs.length = ps.length)
    (hbody : ∀ (A : Around) (outer : List Env) (s : Shared) (H : Hp) (vs : List V) (Q : VK) (E : XK), Room k (A.deeper (envOfC qual scope s.heap.objs.size f cdv)) -> sp vs H Q E ->
      ∃ t, PSs (cxOf CX P w K mg base N qual scope f cdv A outer s H E) body t /\ t { nx := fun _ H' => Q .non H', rt := Q } (start N vs) H) :
    FnOk P w K mg base CX (k + 1) f (PySem.W.fnOf name qual params body scope dV kV doc pm an cdv ct) ps sp := by
  refine ⟨len, fun A outer s H args us vs Q E hr e0 hb r hsp => ?_⟩
  have hl := len _ _ _ _ hsp
  have KX : K.In s.heap := e0.mod.kin.keeps fun b o e => (e0.bs b o e).1
  have lim : s.heap.NoLimit := e0.mod.nolimit.keeps fun b o e => (e0.bs b o e).1
  have hkind : ∀ y ∈ ps.zip us, scope.names.lookup y.1 = some .local \/ (scope.names.lookup y.1 = some .cell /\ ((cellsFrom (s.heap.objs.size + 1) scope.names []).lookup y.1).isSome = true) := fun ⟨n, v⟩ hy => by
    rcases S.par n (List.of_mem_zip hy).1 with q | q
    · exact .inl q
    · exact .inr ⟨q, PySem.W.cellsFrom_some _ _ _ (.inl q)⟩
  refine codeAny_call_function hr.depth (KX _ _ lk) rfl S.co S.gen rfl (PySem.W.codeRec_of KX hcd) (hb _ _ _ _ ?_)
  refine wpAny_newFunctionEnv_cells S.kind hkind fun env he s1 x => ?_
  subst he
  refine ⟨lim.keeps x.toInCall.keep, codeAny_func ?_⟩
  obtain ⟨t, ht, hq⟩ := hbody A outer s H vs Q E (hr.deeper _) hsp
  have I : Inv (cxOf CX P w K mg base N qual scope f cdv A outer s H E) [] (start N vs) H s1 := inv_start S hr.hd e0 hl r x
  refine wpAny_mono (ht [] s1 (start N vs) H _ I hq) (fun fl s' hs => ?_) fun e s' hs => hs
  have fin : ∀ {σ' : St} {H' : Hp} {v : V} {u : Value}, Inv (cxOf CX P w K mg base N qual scope f cdv A outer s H E) [] σ' H' s' -> RelV v u -> Q v H' -> CE outer P w H s Q u s' :=
    fun {σ' H' v u} J rv q => ⟨v, H', J.os, J.bare, J.base, J.hok, rv, q⟩
  cases fl with
  | ret u =>
    obtain ⟨v, σ', H', J, rv, q⟩ := hs
    exact fin J rv q
  | next =>
    obtain ⟨σ', H', J, q⟩ := hs
    exact fin (v := V.non) (u := Value.none) J rfl q
  | brk =>
    obtain ⟨_, _, _, q⟩ := hs
    exact False.elim q
  | cont =>
    obtain ⟨_, _, _, q⟩ := hs
    exact False.elim q
section
variable {X : Cx} {x : Str} {p pos : Pos} {e : Expr} {es : List Expr} {t : TA} {id T : String} {r : List V -> Hp -> VK -> Prop}
def tCB (r : List V -> Hp -> VK -> Prop) (t : TA) : TE := fun σ H Q => t σ H fun vs H1 => r vs H1 Q
theorem pe_callB (hc : CallR X (.builtin id) r) (hg : Gl X x) (hm : X.mg x = none) (hv : bootBuiltins x = some (.builtin id)) (ha : PA X (e :: es) t) (hn : x ≠ "__name__" := by decide) (hdb : (x == ("__debug__" : Str)) = false := by decide)
    (he : starEach (e :: es) X.env = (false, eval e X.env) :: starEach es X.env := by rfl) (hpl : (backTo pos (starEach es X.env)).any (·.1) = false := by rfl) : PE X (.Call (.Name x p) (e :: es) [] pos) (tCB r t) := by
  intro pins s σ H Q I h
  refine wpAny_Call_Name_kw (ld_blt I hg hm hv ?_ hn hdb)
  exact PyProof.Rows.callWith_builtin1 (thn (ha pos pins s σ H _ I h) fun us s1 ⟨vs, H1, I1, r1, q1⟩ => hc pins s1 σ H1 vs us Q I1 r1 q1) he hpl
theorem pe_callTy (hc : CallR X (.type T) r) (hg : Gl X x) (hm : X.mg x = none) (hv : bootBuiltins x = some (.type T)) (ha : PA X (e :: es) t) (hn : x ≠ "__name__" := by decide) (hdb : (x == ("__debug__" : Str)) = false := by decide)
    (he : starEach (e :: es) X.env = (false, eval e X.env) :: starEach es X.env := by rfl) (hpl : (backTo pos (starEach es X.env)).any (·.1) = false := by rfl) : PE X (.Call (.Name x p) (e :: es) [] pos) (tCB r t) := by
  intro pins s σ H Q I h
  refine wpAny_Call_Name_kw (ld_blt I hg hm hv ?_ hn hdb)
  exact PyProof.Rows.callWith_type1 (thn (ha pos pins s σ H _ I h) fun us s1 ⟨vs, H1, I1, r1, q1⟩ => hc pins s1 σ H1 vs us Q I1 r1 q1) he hpl
end
end L2
namespace HT
open PySem PyProof.Rows
def lexLt : List Int -> List Int -> Bool
  | [], [] => false
  | [], _ :: _ => true
  | _ :: _, [] => false
  | x :: xs, y :: ys => if x = y then lexLt xs ys else decide (x < y)
theorem lexLt_cons (x y : Int) (xs ys : List Int) : lexLt (x :: xs) (y :: ys) = if x = y then lexLt xs ys else decide (x < y) := rfl
section
open PySem.SeqAt
open PySem.AutoSeq1 (wpAny_loadPart')
open PySem.MeetsSeq PySem.MeetsSeq2 PySem.MeetsSeq3
end
section
variable {prog : Program} {w : World} {A : Around} {E : Value -> Shared -> Prop} {s : Shared}
theorem cat_tup {t b : Addr} {vs ws : List Value} {Q : Value -> Shared -> Prop} (ht : IsTup s.heap t vs.toArray) (hb : IsTup s.heap b ws.toArray) (hv : vs ≠ [])
    (h1 : ws = [] -> Q (.ref t) s) (h2 : ws ≠ [] -> Q (.ref s.heap.objs.size) { s with heap := s.heap.push { cls := .type "tuple", data := .seq (vs ++ ws).toArray } })
    (hsz : vs.length + ws.length <= sizeLine) : wpAny (model prog w) A (binaryOp .Add (.ref t) (.ref b)) Q E s := by
  obtain ⟨⟨cls, dd, data, sl⟩, ho, hc, n, hd⟩ := id ht
  obtain ⟨⟨cls2, dd2, data2, sl2⟩, ho2, hc2, n2, hd2⟩ := id hb
  simp only at hc hd hc2 hd2
  subst hc hd hc2 hd2
  have e : vs.toArray ++ ws.toArray = (vs ++ ws).toArray := by simp
  by_cases hw : ws = []
  · exact concat_meets ⟨_, ho, rfl⟩ ⟨_, ho2, rfl⟩ noFill_tuple_add seq_tuple_add PySem.F.slot_tuple_add PySem.F.entry_tuple_add (PySem.F.args_tuple_add_2 _ _)
      (tuple_addW1 t b vs.toArray ws.toArray n n2 dd dd2 sl sl2 (by simpa using hv) (by simp [hw])) ⟨ho, ho2, h1 hw⟩
  · refine concat_meets ⟨_, ho, rfl⟩ ⟨_, ho2, rfl⟩ noFill_tuple_add seq_tuple_add PySem.F.slot_tuple_add PySem.F.entry_tuple_add (PySem.F.args_tuple_add_2 _ _)
      (tuple_addW2 t b vs.toArray ws.toArray n n2 dd dd2 sl sl2 (by simpa using hv) (by simpa using hw) (by rw [List.size_toArray, List.size_toArray]; exact hsz)) ⟨ho, ho2, ?_⟩
    rw [e]
    exact h2 hw
def sIx (n d : Nat) : Option Int -> Nat
  | none => d
  | some v => if v < 0 then (v + (n : Int)).toNat else min v.toNat n
theorem sIx_none (n d : Nat) : sIx n d none = d := rfl
theorem sIx_nat (n d k : Nat) : sIx n d (some (k : Int)) = min k n := by
  show (if (k : Int) < 0 then ((k : Int) + (n : Int)).toNat else min (k : Int).toNat n) = min k n
  rw [if_neg (by lia), Int.toNat_natCast]
theorem sIx_le (n d : Nat) (hd : d <= n) (o : Option Int) : sIx n d o <= n := by
  cases o with
  | none => exact hd
  | some v =>
    show (if v < 0 then (v + (n : Int)).toNat else min v.toNat n) <= n
    by_cases hv : v < 0
    · rw [if_pos hv]; lia
    · rw [if_neg hv]; exact Nat.min_le_right _ _
theorem clip_eq (v : Int) (n d : Nat) : (if v < 0 then max (v + (n : Int)) 0 else min v (n : Int)) = ((sIx n d (some v) : Nat) : Int) := by
  show (if v < 0 then max (v + (n : Int)) 0 else min v (n : Int)) = (((if v < 0 then (v + (n : Int)).toNat else min v.toNat n) : Nat) : Int)
  by_cases hv : v < 0
  · simp only [if_pos hv]; lia
  · simp only [if_neg hv]; lia
theorem adjust_gen (lo hi : Option Int) (n : Nat) : Builtin.Slice.sliceAdjust lo hi 1 (n : Int) = (((sIx n 0 lo : Nat) : Int), ((sIx n n hi : Nat) : Int)) := by
  have h1 : ¬ ((1 : Int) < 0) := by lia
  unfold Builtin.Slice.sliceAdjust
  simp only [h1, if_false]
  refine Prod.ext ?_ ?_
  · cases lo with
    | none => rfl
    | some v => exact clip_eq v n 0
  · cases hi with
    | none => rfl
    | some v => exact clip_eq v n n
theorem places_gen (i j : Nat) : Builtin.Slice.slicePlaces (i : Int) (j : Int) 1 = j - i := by
  unfold Builtin.Slice.slicePlaces
  have h1 : (1 : Int) > 0 := by lia
  simp only [h1, if_true, Int.ediv_one]
  split <;> lia
theorem slicePart_ {v : Value} {o : Option Int} {Q : Option Int -> Shared -> Prop} (p : IsPart v o) (h : Q o s) : wpAny (model prog w) A (Builtin.Slice.slicePartIndex v) Q E s := by
  cases p with
  | none => exact slicePart_none h
  | int i t => exact slicePart_int h
theorem sliceApplied_gen {sl : Addr} {vl vu : Value} {lo hi : Option Int} {n : Nat} {Q : Int × Int × Nat -> Shared -> Prop} (hs : s.heap.IsSliceOf sl vl vu .none) (pl : IsPart vl lo) (pu : IsPart vu hi)
    (h : Q (((sIx n 0 lo : Nat) : Int), 1, sIx n n hi - sIx n 0 lo) s) : wpAny (model prog w) A (Builtin.Slice.sliceApplied (.ref sl) (pure (n : Int))) Q E s := by
  obtain ⟨os, hos, hcs, hds⟩ := id hs
  unfold Builtin.Slice.sliceApplied Builtin.Slice.sliceFields
  refine wpAny_bind (wpAny_bind (wpAny_field hos hds (x := vl) rfl (wpAny_bind (wpAny_field hos hds (x := vu) rfl (wpAny_bind (wpAny_field hos hds (x := .none) rfl (wpAny_pure ?_)))))))
  refine wpAny_bind (slicePart_none ?_)
  show wpAny _ _ (if ((1 : Int) == 0) = true then _ else _) _ _ s
  rw [if_neg (by decide)]
  refine wpAny_bind (slicePart_ pl (wpAny_bind (slicePart_ pu (wpAny_bind (wpAny_pure ?_)))))
  show wpAny _ _ (match Builtin.Slice.sliceAdjust lo hi 1 (n : Int) with | (lo, hi) => pure (lo, (1 : Int), Builtin.Slice.slicePlaces lo hi 1)) _ _ s
  rw [adjust_gen lo hi n]
  show wpAny _ _ (pure (((sIx n 0 lo : Nat) : Int), (1 : Int), Builtin.Slice.slicePlaces ((sIx n 0 lo : Nat) : Int) ((sIx n n hi : Nat) : Int) 1)) _ _ s
  rw [places_gen]
  exact wpAny_pure h
theorem pick_gen (xs : Array Value) (i k : Nat) : ((List.range k).filterMap fun (m : Nat) => xs[((i : Int) + (m : Int) * 1).toNat]?).toArray = ((xs.toList.drop i).take k).toArray := by
  have e : (fun (m : Nat) => xs[((i : Int) + (m : Int) * 1).toNat]?) = fun m => xs[i + m]? := by
    funext m
    have : ((i : Int) + (m : Int) * 1).toNat = i + m := by lia
    rw [this]
  rw [e]
  have := pick_run xs i k
  rw [List.filterMap_map] at this
  have e2 : ((fun x => xs[x]?) ∘ fun x => i + x) = fun m => xs[i + m]? := rfl
  rw [e2] at this
  rw [this]
theorem getItem_tuple_cut {t sl : Addr} {items : Array Value} {vl vu : Value} {lo hi : Option Int} {Q : Value -> Shared -> Prop} (ht : IsTup s.heap t items) (hs : s.heap.IsSliceOf sl vl vu .none) (pl : IsPart vl lo) (pu : IsPart vu hi)
    (hw : ¬ (sIx items.size 0 lo = 0 /\ sIx items.size items.size hi = items.size))
    (h : Q (.ref s.heap.objs.size) { s with heap := s.heap.push { cls := .type "tuple", data := .seq ((items.toList.drop (sIx items.size 0 lo)).take (sIx items.size items.size hi - sIx items.size 0 lo)).toArray } })
    (hsz : items.size <= sizeLine) : wpAny (model prog w) A (getItem (.ref t) (.ref sl)) Q E s := by
  have htake : sizeOk (.seq ((items.toList.drop (sIx items.size 0 lo)).take (sIx items.size items.size hi - sIx items.size 0 lo)).toArray) := by
    show ((items.toList.drop (sIx items.size 0 lo)).take (sIx items.size items.size hi - sIx items.size 0 lo)).toArray.size <= sizeLine
    rw [List.size_toArray, List.length_take, List.length_drop, Array.length_toList]
    lia
  have hj : sIx items.size items.size hi <= items.size := sIx_le _ _ (Nat.le_refl _) hi
  obtain ⟨os, hos, hcs, hds⟩ := id hs
  have hTs : s.TypeIs (.ref sl) "slice" := ⟨os, hos, hcs⟩
  unfold getItem
  try with_reducible refine wpAny_holding ?_
  first | refine wpAny_bind (wpAny_pure ?_) | skip
  refine wpAny_bind (wpAny_sequenceKey ht.typeIs (by decide) ?_)
  refine wpAny_bind (wpAny_callSpecial?_slot (name := Str.ofString "__getitem__") ht.typeIs PyProof.Rows.slot_tuple_getitem
    (wpAny_call_entry PyProof.Rows.slot_tuple_getitem ht.typeIs entry_tuple_getitem ?_ (args_tuple_getitem _ _)))
  show wpAny _ _ (Builtin.Tuple.tupleItemsOf (.ref t) >>= _) _ _ s
  refine wpAny_bind (tupleItemsOf_ ht ?_)
  refine wpAny_bind (wpAny_typeOf hTs ?_)
  rw [if_pos (by decide)]
  refine wpAny_bind (sliceApplied_gen hs pl pu ?_)
  have hno : ¬ ((((sIx items.size 0 lo : Nat) : Int) == 0 && (1 : Int) == 1 && (sIx items.size items.size hi - sIx items.size 0 lo) == items.size) = true) := by
    intro q
    rw [Bool.and_eq_true, Bool.and_eq_true] at q
    have q1 : ((sIx items.size 0 lo : Nat) : Int) = 0 := eq_of_beq q.1.1
    have q2 : sIx items.size items.size hi - sIx items.size 0 lo = items.size := eq_of_beq q.2
    exact hw ⟨by lia, by lia⟩
  show wpAny _ _ (if (((sIx items.size 0 lo : Nat) : Int) == 0 && (1 : Int) == 1 && (sIx items.size items.size hi - sIx items.size 0 lo) == items.size) = true then _ else _) _ _ s
  rw [if_neg hno, pick_gen]
  first
    | exact wpAny_bind (m := Builtin.Tuple.tupleExact _) (wpAny_newObj_type (wpAny_pure ⟨_, rfl, wpAny_pure h⟩) htake)
    | exact wpAny_bind (m := Builtin.Tuple.tupleExact _) (wpAny_newObj_type (wpAny_bind (wpAny_pure (wpAny_pure ⟨_, rfl, wpAny_pure h⟩))) htake)
    | exact wpAny_bind (wpAny_bind (m := Builtin.Tuple.tupleExact _) (wpAny_newObj_type (wpAny_pure (wpAny_pure ⟨_, rfl, wpAny_pure h⟩)) htake))
    | exact wpAny_bind (wpAny_bind (m := Builtin.Tuple.tupleExact _) (wpAny_newObj_type (wpAny_pure ⟨_, rfl, wpAny_pure h⟩) htake))
end
end HT
namespace L2
open PySem PySem.Spec PyProof.Rows
abbrev TO := St -> Hp -> (Option Int -> Hp -> Prop) -> Prop
def PO (X : Cx) (e : Option Expr) (t : TO) : Prop :=
  ∀ (pins : List (Addr × Obj)) (s : Shared) (σ : St) (H : Hp) (Q : Option Int -> Hp -> Prop), Inv X pins σ H s -> t σ H Q ->
    wpAny (model X.prog X.w) X.A (evalPart e X.env) (fun u s' => ∃ o H', Inv X pins σ H' s' /\ IsPart u o /\ Q o H') X.xe s
def tNoPart : TO := fun _ H Q => Q none H
def tPart (t : TE) : TO := fun σ H Q => t σ H fun x H1 => ∃ i, x = .int i /\ Q (some i) H1
theorem intsAre_of {ns : List Int} : ∀ {us : List Value}, Vals (ns.map V.int) us -> IntsAre us ns := by
  induction ns with
  | nil => intro us r; rw [List.map_nil] at r; cases r; exact .nil
  | cons n ns ih =>
    intro us r
    rw [List.map_cons] at r
    cases r with
    | cons r1 r2 =>
      obtain ⟨t, e⟩ := r1
      subst e
      exact .cons n t (ih r2)
section
variable {X : Cx} {e : Expr} {te : TE} {lo hi : Option Expr} {tl th : TO} {pos p2 : Pos}
theorem po_none : PO X none tNoPart := by
  intro pins s σ H Q I h
  rw [evalPart_none]
  exact wpAny_pure ⟨none, H, I, .none, h⟩
theorem po_some (h : PE X e te) : PO X (some e) (tPart te) := by
  intro pins s σ H Q I hw
  rw [evalPart_some]
  refine thn (h pins s σ H _ I hw) fun u s1 ⟨x, H1, I1, r1, q1⟩ => ?_
  obtain ⟨i, rfl, q⟩ := q1
  obtain ⟨t, rfl⟩ := r1
  exact ⟨some i, H1, I1, .int i t, q⟩
def SlR (X : Cx) (r : V -> Option Int -> Option Int -> Hp -> VK -> Prop) : Prop :=
  ∀ (pins : List (Addr × Obj)) (s : Shared) (σ : St) (H : Hp) (x : V) (v vl vu : Value) (lo hi : Option Int) (sl : Addr) (Q : VK), Inv X pins σ H s -> RelV x v -> s.heap.IsSliceOf sl vl vu .none -> IsPart vl lo -> IsPart vu hi -> r x lo hi H Q ->
    ∃ T id, typeLookup (.type T) "__getitem__" = pure (some (.builtin id)) /\ s.TypeIs v T /\ wpAny (model X.prog X.w) X.A (getItem v (.ref sl)) (EP X pins σ Q) X.xe s
def tSl (r : V -> Option Int -> Option Int -> Hp -> VK -> Prop) (te : TE) (tl th : TO) : TE := fun σ H Q => te σ H fun x H1 => tl σ H1 fun l H2 => th σ H2 fun u H3 => r x l u H3 Q
theorem pe_slice {r : V -> Option Int -> Option Int -> Hp -> VK -> Prop} (hr : SlR X r) (he : PE X e te) (hl : PO X lo tl) (hu : PO X hi th) : PE X (.Subscript e (.Slice lo hi none p2) pos) (tSl r te tl th) := by
  intro pins s σ H Q I h
  refine Subscript_ (thn (he pins s σ H _ I h) fun v s1 ⟨x, H1, I1, r1, q1⟩ => ?_)
  refine wpAny_Slice (thn (hl pins s1 σ H1 _ I1 q1) fun vl s2 ⟨l, H2, I2, pl, q2⟩ => thn (hu pins s2 σ H2 _ I2 q2) fun vu s3 ⟨u, H3, I3, pu, q3⟩ => ?_)
  rw [evalPart_none]
  refine wpAny_pure ?_
  have I4 : Inv X pins σ H3 { s3 with heap := s3.heap.push { cls := .type "slice", data := .fields #[vl, vu, .none] } } := I3.kept (t' := s3.toks) fun b ob q => Heap.get?_push_of_some _ q
  obtain ⟨T, id, hT, ht, hg⟩ := hr pins { s3 with heap := s3.heap.push { cls := .type "slice", data := .fields #[vl, vu, .none] } } σ H3 x v vl vu l u s3.heap.objs.size Q I4 r1 (Heap.IsSliceOf.new ..) pl pu q3
  show wpAny (model X.prog X.w) X.A (subscriptTail e (.Slice lo hi none p2) v (.ref s3.heap.objs.size)) (EP X pins σ Q) X.xe { s3 with heap := s3.heap.push { cls := .type "slice", data := .fields #[vl, vu, .none] } }
  exact tail_any (ops := [.ref s3.heap.objs.size, v]) ht hT hg (by with_unfolding_all rfl)
def cutV (xs : List V) (lo hi : Option Int) : List V := (xs.drop (HT.sIx xs.length 0 lo)).take (HT.sIx xs.length xs.length hi - HT.sIx xs.length 0 lo)
theorem cutV_length (xs : List V) (lo hi : Option Int) : (cutV xs lo hi).length <= xs.length := by
  unfold cutV
  rw [List.length_take, List.length_drop]
  lia
def rSlT (K : PySem.W.Frag) : V -> Option Int -> Option Int -> Hp -> VK -> Prop := fun x lo hi H Q => ∃ a xs, x = .ref a /\ SqT K H a xs /\
  ¬ (HT.sIx xs.length 0 lo = 0 /\ HT.sIx xs.length xs.length hi = xs.length) /\ ∀ p, H p = none -> Q (.ref p) (upd H p (.tup (cutV xs lo hi)))
theorem sl_tup : SlR X (rSlT X.K) := by
  intro pins s σ H x v vl vu lo hi sl Q I rx hs pl pu h
  obtain ⟨a, xs, rfl, hx, hw, q⟩ := h
  cases rx
  obtain ⟨its, r, ht, hz⟩ := I.tuple hx
  have hlen : its.toArray.size = xs.length := by rw [List.size_toArray]; exact r.length.symm
  refine ⟨"tuple", _, PyProof.Rows.slot_tuple_getitem.lookup, ht.typeIs, ?_⟩
  refine HT.getItem_tuple_cut ht hs pl pu (by rw [hlen]; exact hw) ?_ (by rw [hlen]; exact hz)
  rw [hlen]
  refine ⟨.ref s.heap.objs.size, _, I.laid (t' := s.toks) (o := .tup (cutV xs lo hi)) (fun b ob q => Heap.get?_push_of_some _ q) (Nat.le_refl _) ?_, rfl, q _ (I.hok.fresh (Nat.le_refl _))⟩
  exact ⟨Nat.le_trans (cutV_length xs lo hi) hz, _, (r.drop (HT.sIx xs.length 0 lo)).take (HT.sIx xs.length xs.length hi - HT.sIx xs.length 0 lo), IsTup.new _ _⟩
def rCatT (K : PySem.W.Frag) : R2 := fun x y H Q => ∃ a b xs ys, x = .ref a /\ y = .ref b /\ SqT K H a xs /\ SqT K H b ys /\ xs ≠ [] /\ xs.length + ys.length <= sizeLine /\
  (ys = [] -> Q (.ref a) H) /\ (ys ≠ [] -> ∀ p, H p = none -> Q (.ref p) (upd H p (.tup (xs ++ ys))))
theorem Vals.nil_iff {xs : List V} {us : List Value} (r : Vals xs us) : us = [] ↔ xs = [] := by
  cases r with
  | nil => simp
  | cons _ _ => simp
theorem op_catT : OpR X (binaryOp .Add) (rCatT X.K) := by
  intro pins s σ H x y v u Q I rx ry h
  obtain ⟨a, b, xs, ys, rfl, rfl, ha, hb, hx, hz, q1, q2⟩ := h
  cases rx
  cases ry
  obtain ⟨its, r1, p1, _⟩ := I.tuple ha
  obtain ⟨its2, r2, p2, _⟩ := I.tuple hb
  refine HT.cat_tup p1 p2 (fun z => hx (r1.nil_iff.mp z)) (fun z => ⟨.ref a, H, I, rfl, q1 (r2.nil_iff.mp z)⟩) (fun z => ?_) (by rw [<- r1.length, <- r2.length]; exact hz)
  refine ⟨.ref s.heap.objs.size, _, I.laid (t' := s.toks) (o := .tup (xs ++ ys)) (fun b ob q => Heap.get?_push_of_some _ q) (Nat.le_refl _) ?_, rfl, q2 (fun w => z (r2.nil_iff.mpr w)) _ (I.hok.fresh (Nat.le_refl _))⟩
  exact ⟨by rw [List.length_append]; exact hz, _, r1.append r2, IsTup.new _ _⟩
end
def ixN (n : Nat) (i : Int) : Option Nat := if 0 <= i then (if i < n then some i.toNat else none) else if -(n : Int) <= i then some (i + n).toNat else none
def atI {α : Type} (xs : List α) (i : Int) : Option α := (ixN xs.length i).bind fun j => xs[j]?
theorem ixN_seq {n : Nat} {i : Int} {j : Nat} (h : ixN n i = some j) : seqIndex? i n = some j /\ j < n /\ -(n : Int) <= i /\ i < n := by
  unfold ixN at h
  by_cases h0 : 0 <= i
  · rw [if_pos h0] at h
    by_cases h1 : i < n
    · rw [if_pos h1] at h
      have e : i.toNat = j := Option.some.inj h
      exact ⟨by rw [seqIndex_of h0 h1, e], by lia, by lia, h1⟩
    · rw [if_neg h1] at h; cases h
  · rw [if_neg h0] at h
    by_cases h1 : -(n : Int) <= i
    · rw [if_pos h1] at h
      have e : (i + n).toNat = j := Option.some.inj h
      exact ⟨by rw [seqIndex_neg (by lia) h1, e], by lia, h1, by lia⟩
    · rw [if_neg h1] at h; cases h
theorem atI_get {α : Type} {xs : List α} {i : Int} {v : α} (h : atI xs i = some v) : ∃ j, seqIndex? i xs.length = some j /\ xs[j]? = some v /\ j < xs.length /\ -(xs.length : Int) <= i /\ i < xs.length := by
  unfold atI at h
  cases e : ixN xs.length i with
  | none => rw [e] at h; cases h
  | some j =>
    rw [e] at h
    obtain ⟨h1, h2, h3, h4⟩ := ixN_seq e
    exact ⟨j, h1, h, h2, h3, h4⟩
theorem atI_nat {α : Type} {xs : List α} {j : Nat} {v : α} (h : xs[j]? = some v) : atI xs (j : Int) = some v := by
  have hj : j < xs.length := (List.getElem?_eq_some_iff.mp h).1
  have e : ixN xs.length (j : Int) = some j := by
    unfold ixN
    rw [if_pos (by lia), if_pos (by lia)]; simp
  unfold atI; rw [e]; exact h
theorem atI_last {α : Type} (xs : List α) (v : α) : atI (xs ++ [v]) (-1) = some v := by
  have hl : (xs ++ [v]).length = xs.length + 1 := by simp
  have e : ixN (xs ++ [v]).length (-1) = some xs.length := by
    unfold ixN
    rw [hl, if_neg (by decide), if_pos (by lia)]
    congr 1
    lia
  unfold atI
  rw [e]
  show (xs ++ [v])[xs.length]? = some v
  simp
def PlainIx (b : Expr) : Prop := ∀ o i, subscripted b false o i = operate [o, i] (getItem o i)
def IxR (X : Cx) (r : R2) : Prop :=
  ∀ (value slice : Expr) (pins : List (Addr × Obj)) (s : Shared) (σ : St) (H : Hp) (x y : V) (v u : Value) (Q : VK), Inv X pins σ H s -> RelV x v -> RelV y u -> r x y H Q ->
    subscripted slice false v u = operate [v, u] (getItem v u) -> wpAny (model X.prog X.w) X.A (subscriptTail value slice v u) (EP X pins σ Q) X.xe s
def MtR (X : Cx) (id : String) (r : V -> List V -> Hp -> VK -> Prop) : Prop :=
  ∀ (pins : List (Addr × Obj)) (s : Shared) (σ : St) (H : Hp) (x : V) (xs : List V) (v : Value) (us : List Value) (Q : VK), Inv X pins σ H s -> RelV x v -> Vals xs us -> r x xs H Q ->
    wpAny (model X.prog X.w) X.A (call (.builtin id) (v :: us)) (EP X pins σ Q) X.xe s
section
variable {X : Cx} {a b : Expr} {ta tb : TE} {pos : Pos}
theorem pe_ix {r : R2} (hr : IxR X r) (ha : PE X a ta) (hb : PE X b tb) (hs : PlainIx b) : PE X (.Subscript a b pos) (tOp r ta tb) := by
  intro pins s σ H Q I h
  exact Subscript_ (binT ha hb I h fun v u s2 x y H2 I2 rx ry q => hr a b pins s2 σ H2 x y v u Q I2 rx ry q (hs _ _))
def rIxL (K : PySem.W.Frag) : R2 := fun x y H Q => ∃ p xs i v, x = .ref p /\ y = .int i /\ SqL K H p xs /\ atI xs i = some v /\ Q v H
def rIxT (K : PySem.W.Frag) : R2 := fun x y H Q => ∃ p xs i v, x = .ref p /\ y = .int i /\ SqT K H p xs /\ atI xs i = some v /\ Q v H
theorem ix_list : IxR X (rIxL X.K) := by
  intro value slice pins s σ H x y v u Q I rx ry h hs
  obtain ⟨p, xs, i, z, rfl, rfl, hq, he, q⟩ := h
  cases rx
  obtain ⟨t, rfl⟩ := ry
  obtain ⟨its, r, pl, hz⟩ := I.list hq
  obtain ⟨j, h1, h2, h3, h4, h5⟩ := atI_get he
  obtain ⟨w, ew, rw'⟩ := r.get h2
  have hl := r.length
  have hn := line63
  have fin : EP X pins σ Q w s := ⟨z, H, I, rw', q⟩
  by_cases h0 : 0 <= i
  · have hj : i.toNat = j := by
      rw [seqIndex_of h0 h5] at h1
      exact Option.some.inj h1
    exact item_listR pl.isList h0 (by lia) (by rw [hj]; simpa using ew) fin hs
  · have hj : (i + (its.toArray.size : Int)).toNat = j := by
      rw [seqIndex_neg (by lia) h4] at h1
      rw [List.size_toArray, <- hl]
      exact Option.some.inj h1
    exact subscriptTail_builtinR (x := w) pl.isList.typeIs slot_list_getitem.lookup
      (wpAny_getItem_list_neg (Q := fun r s' => r = w /\ EP X pins σ Q r s') pl.isList (by lia) (by rw [List.size_toArray] <;> lia) (by lia) (by rw [hj]; simpa using ew) ⟨rfl, fin⟩) hs
theorem ix_tup : IxR X (rIxT X.K) := by
  intro value slice pins s σ H x y v u Q I rx ry h hs
  obtain ⟨p, xs, i, z, rfl, rfl, hq, he, q⟩ := h
  cases rx
  obtain ⟨t, rfl⟩ := ry
  obtain ⟨its, r, pl, hz⟩ := I.tuple hq
  obtain ⟨j, h1, h2, h3, h4, h5⟩ := atI_get he
  obtain ⟨w, ew, rw'⟩ := r.get h2
  have hl := r.length
  have hn := line63
  have fin : EP X pins σ Q w s := ⟨z, H, I, rw', q⟩
  exact subscriptTail_builtinR (x := w) pl.typeIs slot_tuple_getitem.lookup
    (getItem_tuple (j := j) (Q := fun r s' => r = w /\ EP X pins σ Q r s') pl (by lia) (by lia) (by rw [List.size_toArray, <- hl]; exact h1) (by simpa using ew) ⟨rfl, fin⟩) hs
theorem slice_bounds (lo hi : Option Int) (n : Nat) : (sliceBounds lo hi none n).1 = ((HT.sIx n 0 lo : Nat) : Int) /\ (sliceBounds lo hi none n).2.1 = ((HT.sIx n n hi : Nat) : Int) /\ (sliceBounds lo hi none n).2.2 = 1 := by
  refine ⟨?_, ?_, rfl⟩
  · cases lo with
    | none => simp [sliceBounds, HT.sIx]
    | some i =>
      simp only [sliceBounds, HT.sIx, Option.getD_none, show (1 : Int) > 0 by decide, if_true]
      by_cases h : i < 0
      · simp only [h, if_true] <;> lia
      · simp only [h, if_false] <;> lia
  · cases hi with
    | none => simp [sliceBounds, HT.sIx]
    | some i =>
      simp only [sliceBounds, HT.sIx, Option.getD_none, show (1 : Int) > 0 by decide, if_true]
      by_cases h : i < 0
      · simp only [h, if_true] <;> lia
      · simp only [h, if_false] <;> lia
theorem slicePick_cut (its : List Value) (lo hi : Option Int) : slicePick its.toArray lo hi none = ((its.drop (HT.sIx its.length 0 lo)).take (HT.sIx its.length its.length hi - HT.sIx its.length 0 lo)).toArray := by
  obtain ⟨h1, h2, h3⟩ := slice_bounds lo hi its.toArray.size
  unfold slicePick
  rw [h1, h2, h3]
  simp only [sliceRange_one, pick_run, List.size_toArray] <;> rfl
def rSlL (K : PySem.W.Frag) : V -> Option Int -> Option Int -> Hp -> VK -> Prop := fun x lo hi H Q => ∃ a xs, x = .ref a /\ SqL K H a xs /\ ∀ p, H p = none -> Q (.ref p) (upd H p (.lst (cutV xs lo hi)))
theorem sl_list : SlR X (rSlL X.K) := by
  intro pins s σ H x v vl vu lo hi sl Q I rx hs pl pu h
  obtain ⟨a, xs, rfl, hx, q⟩ := h
  cases rx
  obtain ⟨its, r, ht, hz⟩ := I.list hx
  have hlen := r.length
  refine ⟨"list", _, slot_list_getitem.lookup, ht.isList.typeIs, ?_⟩
  refine wpAny_getItem_list_slice ht.isList hs pl pu .none (by simp) ?_ (by rw [List.size_toArray] <;> lia)
  rw [slicePick_cut, <- hlen]
  refine ⟨.ref s.heap.objs.size, _, I.laid (t' := s.toks) (o := .lst (cutV xs lo hi)) (fun b ob q => Heap.get?_push_of_some _ q) (Nat.le_refl _) ?_, rfl, q _ (I.hok.fresh (Nat.le_refl _))⟩
  exact ⟨Nat.le_trans (cutV_length xs lo hi) hz, _, 0, (r.drop (HT.sIx xs.length 0 lo)).take (HT.sIx xs.length xs.length hi - HT.sIx xs.length 0 lo), Heap.get?_push_size _ rfl⟩
def flatV : V -> Bool
  | .non => true
  | .bl _ => true
  | .int _ => true
  | .str _ => true
  | _ => false
def eqV : V -> V -> Bool
  | .non, .non => true
  | .bl a, .bl b => a == b
  | .bl a, .int b => (if a then 1 else 0) == b
  | .int a, .bl b => a == (if b then 1 else 0)
  | .int a, .int b => a == b
  | .str a, .str b => a == b
  | _, _ => false
theorem eqAt_V {A : Around} {s : Shared} {y x : V} {u v : Value} (ry : RelV y u) (rx : RelV x v) (fy : flatV y = true) (fx : flatV x = true) : SeqAt.EqAt A s u v (eqV y x) := by
  cases y with
  | non =>
    cases ry
    cases x with
    | non => cases rx; exact SeqAt.EqAt.same _
    | bl b => cases rx; exact SeqAt.EqAt.none_bool b
    | int b => obtain ⟨t, rfl⟩ := rx; exact SeqAt.EqAt.none_int b t
    | str b => obtain ⟨t, rfl⟩ := rx; exact SeqAt.EqAt.none_str b t
    | _ => exact absurd (show false = true from fx) Bool.false_ne_true
  | bl a =>
    cases ry
    cases x with
    | non => cases rx; exact SeqAt.EqAt.bool_none a
    | bl b => cases rx; exact SeqAt.EqAt.bool_bool a b
    | int b => obtain ⟨t, rfl⟩ := rx; exact SeqAt.EqAt.bool_int a b t
    | str b => obtain ⟨t, rfl⟩ := rx; exact SeqAt.EqAt.bool_str a b t
    | _ => exact absurd (show false = true from fx) Bool.false_ne_true
  | int a =>
    obtain ⟨t', rfl⟩ := ry
    cases x with
    | non => cases rx; exact SeqAt.EqAt.int_none a t'
    | bl b => cases rx; exact SeqAt.EqAt.int_bool a t' b
    | int b => obtain ⟨t, rfl⟩ := rx; exact SeqAt.EqAt.int_int a t' b t
    | str b => obtain ⟨t, rfl⟩ := rx; exact SeqAt.EqAt.int_str a t' b t
    | _ => exact absurd (show false = true from fx) Bool.false_ne_true
  | str a =>
    obtain ⟨t', rfl⟩ := ry
    cases x with
    | non => cases rx; exact SeqAt.EqAt.str_none a t'
    | bl b => cases rx; exact SeqAt.EqAt.str_bool a t' b
    | int b => obtain ⟨t, rfl⟩ := rx; exact SeqAt.EqAt.str_int a t' b t
    | str b => obtain ⟨t, rfl⟩ := rx; exact SeqAt.EqAt.str_str a t' b t
    | _ => exact absurd (show false = true from fx) Bool.false_ne_true
  | _ => exact absurd (show false = true from fy) Bool.false_ne_true
def eqU (x : V) (u : Value) : Bool := match u with
  | .none => eqV .non x
  | .bool b => eqV (.bl b) x
  | .int i _ => eqV (.int i) x
  | .str z _ => eqV (.str z) x
  | _ => false
theorem eqU_of {x y : V} {u : Value} (r : RelV y u) (f : flatV y = true) : eqU x u = eqV y x := by
  cases y with
  | non => cases r; rfl
  | bl b => cases r; rfl
  | int i => obtain ⟨t, rfl⟩ := r; rfl
  | str z => obtain ⟨t, rfl⟩ := r; rfl
  | _ => exact absurd (show false = true from f) Bool.false_ne_true
theorem any_eqU {x : V} : ∀ {xs : List V} {us : List Value}, Vals xs us -> xs.all flatV = true -> us.any (eqU x) = xs.any fun y => eqV y x
  | _, _, .nil, _ => rfl
  | y :: xs, u :: us, .cons r t, f => by
    rw [List.all_cons, Bool.and_eq_true] at f
    rw [List.any_cons, List.any_cons, eqU_of r f.1, any_eqU t f.2]
theorem mem_eqAt {A : Around} {s : Shared} {x : V} {v : Value} (rx : RelV x v) (fx : flatV x = true) : ∀ {xs : List V} {us : List Value}, Vals xs us -> xs.all flatV = true -> ∀ u ∈ us, SeqAt.EqAt A s u v (eqU x u)
  | _, _, .nil, _ => fun u hu => by cases hu
  | y :: xs, u :: us, .cons r t, f => fun u' hu => by
    rw [List.all_cons, Bool.and_eq_true] at f
    rcases List.mem_cons.mp hu with rfl | hu
    · rw [eqU_of r f.1]; exact eqAt_V r rx f.1 fx
    · exact mem_eqAt rx fx t f.2 u' hu
def inV (x : V) (xs : List V) : Bool := xs.any fun y => eqV y x
def rIn (K : PySem.W.Frag) (neg : Bool) : R2 := fun x y H Q => ∃ p xs, y = .ref p /\ (SqL K H p xs \/ SqT K H p xs) /\ flatV x = true /\ xs.all flatV = true /\ Q (.bl (if neg then !inV x xs else inV x xs)) H
theorem op_in_seq : OpR X (compareOp .In) (rIn X.K false) := by
  intro pins s σ H x y v u Q I rx ry h
  obtain ⟨p, xs, rfl, hq, fx, fs, q⟩ := h
  cases ry
  rcases hq with hq | hq
  · obtain ⟨its, r, pl, hz⟩ := I.list hq
    refine SeqAt.in_listAt (eqU x) pl.isList (fun w hw => mem_eqAt rx fx r fs w (by simpa using hw)) ⟨.bl _, H, I, rfl, ?_⟩
    rw [show its.toArray.any (eqU x) = its.any (eqU x) by simp, any_eqU r fs]
    exact q
  · obtain ⟨its, r, pl, hz⟩ := I.tuple hq
    refine SeqAt.in_tupleAt (eqU x) pl (fun w hw => mem_eqAt rx fx r fs w (by simpa using hw)) ⟨.bl _, H, I, rfl, ?_⟩
    rw [show its.toArray.any (eqU x) = its.any (eqU x) by simp, any_eqU r fs]
    exact q
theorem op_notIn_seq : OpR X (compareOp .NotIn) (rIn X.K true) := by
  intro pins s σ H x y v u Q I rx ry h
  obtain ⟨p, xs, rfl, hq, fx, fs, q⟩ := h
  cases ry
  rcases hq with hq | hq
  · obtain ⟨its, r, pl, hz⟩ := I.list hq
    refine SeqAt.notIn_listAt (eqU x) pl.isList (fun w hw => mem_eqAt rx fx r fs w (by simpa using hw)) ⟨.bl _, H, I, rfl, ?_⟩
    rw [show its.toArray.any (eqU x) = its.any (eqU x) by simp, any_eqU r fs]
    exact q
  · obtain ⟨its, r, pl, hz⟩ := I.tuple hq
    refine SeqAt.notIn_tupleAt (eqU x) pl (fun w hw => mem_eqAt rx fx r fs w (by simpa using hw)) ⟨.bl _, H, I, rfl, ?_⟩
    rw [show its.toArray.any (eqU x) = its.any (eqU x) by simp, any_eqU r fs]
    exact q
theorem call_len_seq : CallR X (.builtin "len") (fun xs H Q => ∃ p ys, xs = [.ref p] /\ (SqL X.K H p ys \/ SqT X.K H p ys) /\ Q (.int ys.length) H) := by
  intro pins s σ H xs us Q I r h
  obtain ⟨p, ys, rfl, hq, q⟩ := h
  obtain ⟨u, rfl, rx⟩ := vals1 r
  cases rx
  have hn := line63
  rcases hq with hq | hq
  · obtain ⟨its, r', pl, hz⟩ := I.list hq
    have hlen := r'.length
    exact Calls.call_len_list pl.isList (by simp only [List.size_toArray] <;> lia) ⟨.int ys.length, H, I.tok _, ⟨s.toks + 1, by rw [List.size_toArray, hlen]⟩, q⟩
  · obtain ⟨its, r', pl, hz⟩ := I.tuple hq
    have hlen := r'.length
    exact len_tuple pl (by simp only [List.size_toArray] <;> lia) ⟨.int ys.length, H, I.tok _, ⟨s.toks + 1, by rw [List.size_toArray, hlen]⟩, q⟩
theorem call_list_of : CallR X (.type "list") (fun xs H Q => ∃ p ys, xs = [.ref p] /\ (SqL X.K H p ys \/ SqT X.K H p ys) /\ ∀ l, H l = none -> Q (.ref l) (upd H l (.lst ys))) := by
  intro pins s σ H xs us Q I r h
  obtain ⟨p, ys, rfl, hq, q⟩ := h
  obtain ⟨u, rfl, rx⟩ := vals1 r
  cases rx
  have fin : ∀ (its : List Value), Vals ys its -> ys.length <= sizeLine -> ∀ (h' : Heap) (c' : Nat), (∀ b o', s.heap.get? b = some o' -> h'.get? b = some o') ->
      h'.get? s.heap.objs.size = some { cls := .type "list", dict := none, data := .seq its.toArray c', slots := #[] } -> EP X pins σ Q (.ref s.heap.objs.size) { s with heap := h' } := fun its r' hz h' c' kp e =>
    ⟨.ref s.heap.objs.size, _, I.laid (t' := s.toks) kp (Nat.le_refl _) (show ObjOk X.prog X.w _ h' _ (.lst ys) from ⟨hz, its, c', r', e⟩), rfl, q _ (I.hok.fresh (Nat.le_refl _))⟩
  rcases hq with hq | hq
  · obtain ⟨its, r', pl, hz⟩ := I.list hq
    have hlen := r'.length
    obtain ⟨o, ho, hc, n, hd⟩ := pl.isList
    exact call_list_seq p (.inl rfl) ho hc hd (fun h' c' kp e => fin its r' hz h' c' kp e) (by simp only [List.size_toArray] <;> lia)
  · obtain ⟨its, r', pl, hz⟩ := I.tuple hq
    have hlen := r'.length
    obtain ⟨o, ho, hc, n, hd⟩ := pl
    exact call_list_seq p (.inr rfl) ho hc hd (fun h' c' kp e => fin its r' hz h' c' kp e) (by simp only [List.size_toArray] <;> lia)
theorem call_tuple_of : CallR X (.type "tuple") (fun xs H Q => ∃ p ys, xs = [.ref p] /\ ((SqL X.K H p ys /\ ∀ l, H l = none -> Q (.ref l) (upd H l (.tup ys))) \/ (SqT X.K H p ys /\ Q (.ref p) H))) := by
  intro pins s σ H xs us Q I r h
  obtain ⟨p, ys, rfl, h⟩ := h
  obtain ⟨u, rfl, rx⟩ := vals1 r
  cases rx
  rcases h with ⟨hq, q⟩ | ⟨hq, q⟩
  · obtain ⟨its, r', pl, hz⟩ := I.list hq
    have hlen := r'.length
    refine call_tuple_list pl.isList (fun h' kp => ?_) (by simp only [List.size_toArray] <;> lia)
    have I1 : Inv X pins σ H { s with heap := h' } := I.kept (t' := s.toks) kp
    have I2 : Inv X pins σ (upd H h'.objs.size (.tup ys)) { s with heap := h'.push { cls := .type "tuple", data := .seq its.toArray } } :=
      I1.laid (t' := s.toks) (fun b o e => Heap.get?_push_of_some _ e) (Nat.le_refl _) (show ObjOk X.prog X.w _ _ _ (.tup ys) from ⟨hz, its, r', IsTup.new _ _⟩)
    exact ⟨.ref h'.objs.size, _, I2, rfl, q _ (I1.hok.fresh (Nat.le_refl _))⟩
  · obtain ⟨its, r', pl, hz⟩ := I.tuple hq
    exact call_tuple_same pl ⟨.ref p, H, I, rfl, q⟩
def tyV (K : PySem.W.Frag) (T : String) (x : V) (H : Hp) : Prop := match x with
  | .str _ => T = "str"
  | .int _ => T = "int"
  | .ref p => (T = "list" /\ ∃ xs, SqL K H p xs) \/ (T = "tuple" /\ ∃ o, K.lookup p = some o /\ o.cls = .type "tuple" /\ o.dict = none) \/
      (T = "dict" /\ ((∃ kvs, H p = some (.dK kvs)) \/ ∃ kvs, H p = some (.dT kvs))) \/ (T = "set" /\ ∃ S n, H p = some (.set S n))
  | _ => False
theorem tyV_is {pins : List (Addr × Obj)} {σ : St} {H : Hp} {s : Shared} {T : String} {x : V} {v : Value} (I : Inv X pins σ H s) (r : RelV x v) (ty : tyV X.K T x H) :
    s.TypeIs v T /\ ∀ a, v = .ref a -> ∃ ob, s.heap.get? a = some ob /\ ob.dict = none := by
  cases x with
  | str z =>
    obtain ⟨t, rfl⟩ := r
    cases (show T = "str" from ty)
    exact ⟨typeIs_str s z t, fun _ e => nomatch e⟩
  | int i =>
    obtain ⟨t, rfl⟩ := r
    cases (show T = "int" from ty)
    exact ⟨typeIs_int s i t, fun _ e => nomatch e⟩
  | ref p =>
    cases r
    rcases ty with ⟨rfl, xs, hq⟩ | ⟨rfl, o, hk, hc, hd⟩ | ⟨rfl, hk⟩ | ⟨rfl, S, n, hk⟩
    · obtain ⟨its, _, pl, _⟩ := I.list hq
      refine ⟨pl.isList.typeIs, fun a e => ?_⟩
      cases e
      obtain ⟨o, n, e, c, hd, _⟩ := pl
      exact ⟨o, e, hd⟩
    · refine ⟨⟨o, I.kIn p o hk, hc⟩, fun a e => ?_⟩
      cases e
      exact ⟨o, I.kIn _ o hk, hd⟩
    · have z : ∃ o, s.heap.get? p = some o /\ o.ExactDict := by
        rcases hk with ⟨kvs, hk⟩ | ⟨kvs, hk⟩
        · obtain ⟨_, _, _, _, o, _, _, e, ex, _⟩ := I.hok p _ hk
          exact ⟨o, e, ex⟩
        · obtain ⟨_, _, _, _, o, _, _, e, ex, _⟩ := I.hok p _ hk
          exact ⟨o, e, ex⟩
      obtain ⟨o, e, ex⟩ := z
      refine ⟨⟨o, e, ex.1⟩, fun a e2 => ?_⟩
      cases e2
      exact ⟨o, e, ex.2.1⟩
    · obtain ⟨o, _, _, _, e, ex, _⟩ := I.hok p _ hk
      refine ⟨⟨o, e, ex.1⟩, fun a e2 => ?_⟩
      cases e2
      exact ⟨o, e, ex.2.1⟩
  | _ => exact False.elim ty
def tBM0 (K : PySem.W.Frag) (T : String) (r : V -> List V -> Hp -> VK -> Prop) (to : TE) : TE := fun σ H Q => to σ H fun x H1 => tyV K T x H1 /\ r x [] H1 Q
def tBM (K : PySem.W.Frag) (T : String) (r : V -> List V -> Hp -> VK -> Prop) (to : TE) (t : TA) : TE := fun σ H Q => to σ H fun x H1 => tyV K T x H1 /\ t σ H1 fun xs H2 => r x xs H2 Q
variable {o e : Expr} {es : List Expr} {to : TE} {t : TA} {name : Str} {apos cpos : Pos} {T id : String} {r : V -> List V -> Hp -> VK -> Prop}
theorem pe_bm0 (pa : PlainAttrs T) (slot : Slot T name id) (hty : typeOf (.builtin id) = pure (.type "method_descriptor")) (hm : MtR X id r) (ho : PE X o to)
    (hbase : attributeBase o name X.env (eval o X.env) = eval o X.env := by rfl) (hline : (apos.endLine == cpos.line) = true := by rfl) : PE X (.Call (.Attribute o name apos) [] [] cpos) (tBM0 X.K T r to) := by
  intro pins s σ H Q I h
  refine wpAny_Call_method0_late hbase hline (thn (ho pins s σ H _ I h) fun v s1 ⟨x, H1, I1, r1, ty, q1⟩ => ?_)
  obtain ⟨h1, h2⟩ := tyV_is I1 r1 ty
  exact ⟨T, id, pa, slot, hty, h1, h2, Calls.callWith_builtin rfl (PySem.evalArgs_none (hm pins s1 σ H1 x [] v [] Q I1 r1 .nil q1))⟩
theorem pe_bm (pa : PlainAttrs T) (slot : Slot T name id) (hty : typeOf (.builtin id) = pure (.type "method_descriptor")) (hm : MtR X id r) (ho : PE X o to) (ha : PA X (e :: es) t)
    (hbase : attributeBase o name X.env (eval o X.env) = eval o X.env := by rfl)
    (hfew : ((backTo cpos (starEach (e :: es) X.env)).all (fun x => !x.1) && (backToKw cpos (keywordEach [] X.env)).all (fun x => x.1.isSome)
      && decide ((e :: es).length + ([] : List Keyword).length + (if ([] : List Keyword).isEmpty then 0 else 1) < 30)) = true := by rfl)
    (hline : (apos.endLine == cpos.line) = true := by rfl) (hs : starEach (e :: es) X.env = (false, eval e X.env) :: starEach es X.env := by rfl) (hplain : (backTo cpos (starEach es X.env)).any (·.1) = false := by rfl) :
    PE X (.Call (.Attribute o name apos) (e :: es) [] cpos) (tBM X.K T r to t) := by
  intro pins s σ H Q I h
  refine wpAny_Call_method_late hbase hfew hline rfl (thn (ho pins s σ H _ I h) fun v s1 ⟨x, H1, I1, r1, ty, q1⟩ => ?_)
  obtain ⟨h1, h2⟩ := tyV_is I1 r1 ty
  refine ⟨T, id, pa, slot, hty, h1, h2, ?_⟩
  have hA := ha cpos pins s1 σ H1 _ I1 q1
  rw [hs] at hA ⊢
  refine Calls.callWith_builtin (by show (false || (backTo cpos (starEach es X.env)).any (·.1)) = false; rw [hplain] <;> rfl) (Calls.evalArgs_plain ?_)
  exact thn hA fun us s2 ⟨vs, H2, I2, r2, q2⟩ => hm pins s2 σ H2 x vs v us Q I2 r1 r2 q2
/- xs.append(e), list.index on a module's tuple .. are MtR facts of 06m -/
end
def MtM (X : Cx) (id : String) (r : V -> List V -> Hp -> VK -> Prop) : Prop :=
  ∀ (pins : List (Addr × Obj)) (s : Shared) (σ : St) (H : Hp) (x : V) (xs : List V) (v : Value) (us : List Value) (Q : VK), Inv X pins σ H s -> RelV x v -> Vals xs us -> r x xs H Q ->
    wpAny (model X.prog X.w) X.A (call (.builtin id) (v :: us)) (EP X pins σ Q) X.xe s
theorem Vals.one : ∀ {x : V} {us : List Value}, Vals [x] us -> ∃ u, us = [u] /\ RelV x u
  | _, _, .cons r .nil => ⟨_, rfl, r⟩
theorem Vals.two : ∀ {x y : V} {us : List Value}, Vals [x, y] us -> ∃ u v, us = [u, v] /\ RelV x u /\ RelV y v := by
  intro x y us h
  cases h with
  | cons r h => cases h with
    | cons q h => cases h; exact ⟨_, _, rfl, r, q⟩
theorem Vals.zero : ∀ {us : List Value}, Vals [] us -> us = []
  | _, .nil => rfl
section
variable {X : Cx} {pins : List (Addr × Obj)} {σ : St} {H : Hp} {s : Shared} {l b : Addr} {xs ys zs : List V}
theorem Inv.lset {its its' : List Value} {n : Nat} {f : Array Value -> Array Value} {t' : Nat} (I : Inv X pins σ H s) (hH : H l = some (.lst xs))
    (e : s.heap.get? l = some { cls := .type "list", data := .seq its.toArray n }) (hf : f its.toArray = its'.toArray) (hv : Vals ys its') (hz : ys.length <= sizeLine) :
    Inv X pins σ (upd H l (.lst ys)) { s with heap := s.heap.update l (Obj.mapSeq f), toks := t' } := by
  have q := PySem.IsL.update e f
  rw [hf] at q
  refine I.write (x := l) (e := l) (by rw [hH]; exact trivial) (.inl rfl) (fun b' u hb hu => (Heap.get?_update_other s.heap (Obj.mapSeq f) (Ne.symm hb)).trans hu) ⟨_, q⟩ ?_
  exact ⟨hz, its', _, hv, q⟩
theorem Inv.lnew {its : List Value} {t' : Nat} (I : Inv X pins σ H s) (hv : Vals ys its) (hz : ys.length <= sizeLine) :
    Inv X pins σ (upd H s.heap.objs.size (.lst ys)) { s with heap := s.heap.push { cls := .type "list", data := .seq its.toArray }, toks := t' } :=
  I.laid (fun _ _ q => Heap.get?_push_of_some _ q) (Nat.le_refl _) ⟨hz, its, 0, hv, Heap.get?_push_size _ rfl⟩
theorem Inv.fresh (I : Inv X pins σ H s) : H s.heap.objs.size = none := I.hok.fresh (Nat.le_refl _)
theorem Inv.lstM (I : Inv X pins σ H s) (hH : H l = some (.lst xs)) : xs.length <= sizeLine /\ ∃ (its : List Value) (n : Nat), Vals xs its /\ xs.length = its.length /\ s.heap.get? l = some { cls := .type "list", data := .seq its.toArray n } := by
  obtain ⟨z, its, n, r, e⟩ := I.hok l _ hH
  exact ⟨z, its, n, r, r.length, e⟩
theorem notLongL {n : Nat} (h : n <= sizeLine) : Builtin.List.listTooLong n = false := by
  unfold Builtin.List.listTooLong
  exact decide_eq_false (by lia)
end
section
variable {X : Cx}
def rAppend : V -> List V -> Hp -> VK -> Prop := fun x vs H Q => ∃ l xs y, x = .ref l /\ vs = [y] /\ H l = some (.lst xs) /\ xs.length < sizeLine /\ Q .non (upd H l (.lst (xs ++ [y])))
theorem mt_append : MtM X "list.append" rAppend := by
  intro pins s σ H x vs v us Q I rx rv h
  obtain ⟨l, xs, y, rfl, rfl, hH, hz, q⟩ := h
  cases rx
  obtain ⟨u, rfl, ru⟩ := rv.one
  obtain ⟨z, its, n, r, hl, e⟩ := I.lstM hH
  refine call_meets F.slot_list_append ⟨_, e, rfl⟩ F.entry_list_append (F.args_list_append_2 _ _) (PySem.list_append l its.toArray n u (by rw [List.size_toArray]; lia)) ⟨e, ?_⟩
  refine ⟨.non, _, I.lset (its' := its ++ [u]) hH e (by simp) (r.append (.cons ru .nil)) ?_, rfl, q⟩
  rw [List.length_append, List.length_singleton]
  lia
def rExtend : V -> List V -> Hp -> VK -> Prop := fun x vs H Q => ∃ l b xs zs, x = .ref l /\ vs = [.ref b] /\ H l = some (.lst xs) /\ H b = some (.lst zs) /\ xs.length + zs.length <= sizeLine /\ Q .non (upd H l (.lst (xs ++ zs)))
theorem mt_extend : MtM X "list.extend" rExtend := by
  intro pins s σ H x vs v us Q I rx rv h
  obtain ⟨l, b, xs, zs, rfl, rfl, hH, hB, hz, q⟩ := h
  cases rx
  obtain ⟨u, rfl, ru⟩ := rv.one
  cases ru
  obtain ⟨z, its, n, r, hl, e⟩ := I.lstM hH
  obtain ⟨z2, its2, n2, r2, hl2, e2⟩ := I.lstM hB
  have hsz : its.toArray.size + its2.toArray.size <= sizeLine := by rw [List.size_toArray, List.size_toArray]; lia
  have hlong : ¬ (!its.toArray.isEmpty && Builtin.List.listTooLong (its.toArray.size + its2.toArray.size)) = true := by
    rw [notLongL hsz, Bool.and_false]
    exact Bool.false_ne_true
  refine call_meets F.slot_list_extend ⟨_, e, rfl⟩ F.entry_list_extend (F.args_list_extend_2 _ _)
    (AutoSeq1.list_extend_list_list_0 l its.toArray n b its2.toArray n2 hlong (by rw [List.size_toArray]; lia) (by lia)) ⟨e, e2, ?_⟩
  refine ⟨.non, _, I.lset (its' := its ++ its2) hH e (by simp) (r.append r2) ?_, rfl, q⟩
  rw [List.length_append]
  lia
def rCat : R2 := fun x y H Q => ∃ l b xs zs, x = .ref l /\ y = .ref b /\ H l = some (.lst xs) /\ H b = some (.lst zs) /\ xs.length + zs.length <= sizeLine /\ ∀ p, H p = none -> Q (.ref p) (upd H p (.lst (xs ++ zs)))
theorem op_cat : OpR X (binaryOp .Add) rCat := by
  intro pins s σ H x y v u Q I rx ry h
  obtain ⟨l, b, xs, zs, rfl, rfl, hH, hB, hz, q⟩ := h
  cases rx
  cases ry
  obtain ⟨z, its, n, r, hl, e⟩ := I.lstM hH
  obtain ⟨z2, its2, n2, r2, hl2, e2⟩ := I.lstM hB
  refine PySem.P.add_list e e2 ?_ (by rw [List.size_toArray, List.size_toArray]; lia)
  have ea : its.toArray ++ its2.toArray = (its ++ its2).toArray := by simp
  rw [ea]
  exact ⟨.ref _, _, I.lnew (t' := s.toks) (r.append r2) (by rw [List.length_append]; lia), rfl, q _ I.fresh⟩
end
section
variable {prog : Program} {w : World} {A : Around} {E : Value -> Shared -> Prop} {s : Shared}
set_option maxRecDepth 100000 in
end
section
variable {X : Cx}
end
end L2
namespace Att
open PySem PySem.W PySem.Calls PyProof.Rows
theorem ints_of_wellAll {P : Params} {h : Heap} : ∀ (ns : List Int) (vs : List Value), WellAll P h vs (ns.map WData.int) -> IntsAre vs ns := by
  intro ns
  induction ns with
  | nil =>
    intro vs w
    rw [List.map_nil] at w
    cases w
    exact .nil
  | cons n ns ih =>
    intro vs w
    rw [List.map_cons] at w
    cases w with
    | cons a b =>
      cases a
      exact .cons _ _ (ih _ b)
theorem script_of {l : OpenLaw} {n : Nat} (hn : l.most = some n) {P : Params} {h : Heap} {args : List WData} {vals : List Value}
    (hpre : l.row.toRowW.claim.pre args = true) (hwl : WellAll P h vals args) :
    ∃ a vs ns, vals = [Value.ref a] /\ args = [WData.list (ns.map WData.int)] /\ h.get? a = some { cls := .type "list", data := .seq vs.toArray } /\ IntsAre vs ns /\ ns.length <= n := by
  have hsh : WShape.hasAll [] args [.list .int] = true := (pre_splitW hpre).1
  have hc : l.pre.holds [] { args := args } = true := (pre_splitW hpre).2
  obtain ⟨d, r, rfl, h1, h2⟩ := hasAllW_cons hsh
  obtain rfl := hasAllW_nil h2
  obtain ⟨xs, rfl, h3⟩ := hasW_list h1
  obtain ⟨ns, rfl⟩ := items_int h3
  have hlen : ns.length <= n := by
    unfold OpenLaw.pre at hc
    have h4 : (WTm.not (.lt (.lit (.int (n : Int))) (.len (.arg 0)))).holds [] { args := [.list (ns.map .int)] } = true := by
      have h4 := (holds_andW hc).1
      rw [hn] at h4
      exact h4
    have h5 := condW_of h4 (w_not (w_lt w_lit (w_len_list (w_arg rfl))))
    rw [List.length_map] at h5
    refine Nat.le_of_not_lt fun q => ?_
    have q' : (n : Int) < ((ns.length : Nat) : Int) := by lia
    first
      | (rw [decide_eq_true q'] at h5; exact absurd h5 (by decide))
      | (simp at h5; lia)
  cases hwl with
  | cons w1 w2 =>
    cases w2
    cases w1 with
    | list ho hall => exact ⟨_, _, ns, rfl, rfl, ho, ints_of_wellAll ns _ hall, hlen⟩
theorem post_true (l : OpenLaw) (args : List WData) : l.row.toRowW.claim.post args (.bool true) args = true :=
  postW_of (r := l.row.toRowW) (X := (true == true))
    (show WShape.has [] (.bool true) .bool = true by first | rfl | decide | simp [WShape.has, WShape.arms, WShape.armsAll])
    (show (WTm.eq .res (.lit (.bool true))).value [] { args := args, res := some (.bool true), after := args } = some (.bool (true == true)) from w_eq_bool (w_res rfl) w_lit) rfl
theorem attach_call {l : OpenLaw} {n : Nat} {q : Program} {loose : List Str} {XP : (Str -> Option Value) -> Heap -> Prop} {YP : World -> Heap -> Prop} {d : DefRec}
    (hn : l.most = some n) (hdf : d.params.defaults = [])
    (call : ∀ (w : World) (s₀ s₁ : Shared) (mg mb : Str -> Option Value) (fa : Addr) (o : Obj) (pm cd doc : Value) (a : Addr) (vs : List Value) (ns : List Int),
      Ground q loose [] XP w s₀ mg mb s₁.heap -> YP w s₁.heap ->
      s₁.heap.get? fa = some o -> o.data = .func (docDef d.name d.params d.body d.scope pm cd doc) -> s₁.heap.CodeRec cd d.name -> mg d.name = some (.ref fa) ->
      s₁.heap.get? a = some { cls := .type "list", data := .seq vs.toArray } -> IntsAre vs ns -> ns.length <= n -> s₁.gens = #[] ->
      codeAny (model l.prog w) callerA (.call (.ref fa) ⟨[.ref a], []⟩) (fun r s' => r = .ok (.ret (.bool true)) /\ OldK s₁.heap s'.heap /\ s'.os = s₁.os /\ AllBare s'.gens) s₁) :
    WalkO q loose XP YP l.row.toRowW d [] (fun f vs => PySem.call f vs) := by
  intro w s₀ s₁ mg mb G Y fa o pm cd doc dV kV ho hd hcd hD hmg hg args vals as hpre hlay hrd hwl hlo
  obtain rfl : dV = .none := Dflts.none hD hdf
  obtain rfl : kV = .none := Dflts.noKw hD
  obtain ⟨a, vs, ns, rfl, rfl, hobj, hints, hlen⟩ := script_of hn hpre hwl
  refine enter_call (codeAny_mono (call w s₀ s₁ mg mb fa o pm cd doc a vs ns G Y ho (fd_plain hd) hcd hmg hobj hints hlen hg) fun r s' hq => ?_)
  obtain ⟨rfl, h2, h3, h4⟩ := hq
  exact ⟨.inl ⟨.bool true, .bool true, [], rfl, fun _ => rfl, .bool true, post_true l _, fun _ => ⟨List.Pairwise.nil, fun _ hm => (nomatch hm)⟩⟩, h2, h3, h4⟩
section
variable {prog : Program} {w : World} {A : Around} {E : Value -> Shared -> Prop} {s : Shared} {K : Frag}
end
end Att
namespace L2
open PySem PySem.Spec PyProof.Rows
theorem vals_ints : ∀ {vs : List Value} {ns : List Int}, IntsAre vs ns -> Vals (ns.map V.int) vs
  | _, _, .nil => .nil
  | _, _, .cons n t h => .cons ⟨t, rfl⟩ (vals_ints h)
def Only (H : Hp) : Prop := ∀ b, H b = none \/ ∃ o xs, H b = some (.frz o (.lst xs))
theorem law_call {P : Program} {w : World} {K : PySem.W.Frag} {mg mb : Str -> Option Value} {CX : CXT} {k : Nat} {fa a : Addr} {fd : FuncData} {x : Str} {sp : Sp} {s₁ : Shared} {vs : List Value} {ns : List Int}
    (KX : K.In s₁.heap) (hns : s₁.heap.Ns mainGlobals mg) (hb : s₁.heap.Ns builtinsNs mb) (hbb : ∀ x : Str, x ≠ "__name__" -> mb x = bootBuiltins x) (hlim : s₁.heap.NoLimit) (hg : s₁.gens = #[])
    (ha : s₁.heap.get? a = some { cls := .type "list", data := .seq vs.toArray }) (hi : IntsAre vs ns) (hl : ns.length <= sizeLine) (hr : Room k callerA)
    (F : ∀ base : Heap, K.In base -> base.Ns mainGlobals mg -> FnOk P w K mg base CX k fa fd [x] sp) (hbind : ∀ (s : Shared) (u : Value), BindsTo s fd ⟨[u], []⟩ [(x, u)])
    (hsp : ∀ H : Hp, Only H -> SqL K H a (ns.map V.int) -> sp [.ref a] H (fun v _ => v = .bl true) fun _ _ _ => False)
    (hCX : ∀ H e s', CX [] H s₁ (fun _ _ _ => False) e s' -> False) :
    codeAny (model P w) callerA (.call (.ref fa) ⟨[.ref a], []⟩) (fun r s' => r = .ok (.ret (.bool true)) /\ OldK s₁.heap s'.heap /\ s'.os = s₁.os /\ AllBare s'.gens) s₁ := by
  have rv := vals_ints hi
  have lenV := hi.length
  have core : ∀ H : Hp, Only H -> SqL K H a (ns.map V.int) -> HOk P w H s₁.heap -> (∀ b, H b ≠ none -> b = a) -> (H a ≠ none -> K.lookup a = none) ->
      codeAny (model P w) callerA (.call (.ref fa) ⟨[.ref a], []⟩) (fun r s' => r = .ok (.ret (.bool true)) /\ OldK s₁.heap s'.heap /\ s'.os = s₁.os /\ AllBare s'.gens) s₁ := by
    intro H hO hS hok hA hK
    have base_of : ∀ {b : Addr} {o : Obj}, s₁.heap.get? b = some o -> H b = none -> (hidT s₁.heap H).get? b = some o := fun e n => hidT_get e n
    have noA : ∀ {b : Addr} {o : Obj} {es : Array DictEntry} {ep : Nat}, s₁.heap.get? b = some o -> o.data = .dict es ep -> H b = none := fun {b o es ep} e d => by
      cases q : H b with
      | none => rfl
      | some u =>
        have e' : b = a := hA b (by rw [q]; simp)
        subst e'
        rw [ha] at e; cases e
        have d' : Data.seq vs.toArray _ = Data.dict es ep := d
        cases d'
    have nsK : ∀ {b : Addr} {m : Str -> Option Value}, s₁.heap.Ns b m -> (hidT s₁.heap H).Ns b m := fun {b m} ⟨o, es, ep, e, d, r⟩ => ⟨o, es, ep, base_of e (noA e d), d, r⟩
    have hKb : K.In (hidT s₁.heap H) := fun b o e => base_of (KX b o e) (by
      cases q : H b with
      | none => rfl
      | some u =>
        have e' : b = a := hA b (by rw [q]; simp)
        subst e'
        rw [hK (by rw [q]; simp)] at e; cases e)
    have hM : Mod K mg (hidT s₁.heap H) := ⟨hKb, nsK hns, ⟨mb, nsK hb, hbb⟩, let ⟨mc, h1, h2⟩ := hlim; ⟨mc, nsK h1, h2⟩⟩
    have e0 : Env0 P w K mg (hidT s₁.heap H) callerA [] s₁ H := ⟨rfl, hM, fun b o e => of_hidT e, Nat.le_of_eq (hidT_size _ _), trivial, fun b hb => absurd (show b ∈ ([] : List Addr) from hb) (by simp), hok, .of_eq hg⟩
    refine codeAny_mono ((F _ hKb (nsK hns)).run callerA [] s₁ H ⟨[.ref a], []⟩ [.ref a] [.ref a] _ _ hr e0 (hbind s₁ (.ref a)) (.cons rfl .nil) (hsp H hO hS)) fun r s' h => ?_
    cases r with
    | error e => exact (hCX H e s' h).elim
    | ok fl =>
      cases fl with
      | next => exact False.elim h
      | brk => exact False.elim h
      | cont => exact False.elim h
      | ret u =>
        obtain ⟨v, H', os, bare, un, hok', r', q⟩ := h
        have q' : v = .bl true := q
        subst q'
        obtain rfl : u = Value.bool true := r'
        refine ⟨rfl, OldK.of_keep fun b o e => ?_, os, bare⟩
        cases q : H b with
        | none => exact un.keep b o e q (by intro z; exact absurd (show b ∈ ([] : List Addr) from z) (by simp)) (by simp)
        | some u =>
          rcases hO b with z | ⟨ob, xs, z⟩
          · rw [q] at z; cases z
          · have z2 := un.frzs b ob _ z
            obtain ⟨e1, _⟩ := hok b _ z
            obtain ⟨e2, _⟩ := hok' b _ z2
            rw [e] at e1; cases e1
            exact e2
  cases hk : K.lookup a with
  | some o =>
    have e := KX a o hk
    rw [ha] at e
    cases e
    refine core (fun _ => none) (fun _ => .inl rfl) (.inr ⟨_, vs.toArray, _, hk, rfl, rfl, rfl, by rw [List.size_toArray, lenV]; exact hl, by simpa using rv⟩) (fun b u z => by have z' : (none : Option HO) = some u := z; cases z') (fun b z => absurd rfl z) fun z => absurd rfl z
  | none =>
    refine core (fun b => if b = a then some (.frz { cls := .type "list", data := .seq vs.toArray } (.lst (ns.map V.int))) else none) (fun b => ?_) (.inl (.inr ⟨{ cls := .type "list", data := .seq vs.toArray }, if_pos rfl⟩)) (fun b u z => ?_) (fun b z => ?_) fun _ => hk
    · by_cases hb : b = a
      · exact .inr ⟨_, _, if_pos hb⟩
      · exact .inl (if_neg hb)
    · by_cases hb : b = a
      · have z' := (if_pos hb).symm.trans z
        cases z'
        subst hb
        exact ⟨ha, by rw [List.length_map]; exact hl, vs, _, rv, ha⟩
      · have z' := (if_neg hb).symm.trans z
        cases z'
    · by_cases hb : b = a
      · exact hb
      · exact absurd (if_neg hb) z
abbrev KOf {K : PySem.W.Frag} {h : Heap} (_ : K.In h) : PySem.W.Frag := K
theorem walk_of {l : PySem.W.OpenLaw} {n k : Nat} {q : Program} {loose : List Str} {XP : (Str -> Option Value) -> Heap -> Prop} {YP : World -> Heap -> Prop} {d : DefRec} {K : Params -> PySem.W.Frag} {CX : World -> CXT} {sp : World -> Sp} {x : Str}
    (hn : l.most = some n) (hn2 : n <= sizeLine) (hdf : d.params.defaults = []) (hr : Room k callerA)
    (hY : ∀ (w : World) (h : Heap), YP w h -> (K w.params).In h)
    (F : ∀ (w : World) (mg : Str -> Option Value) (fa : Addr) (h : Heap), (K w.params).In h -> h.Ns mainGlobals mg -> mg d.name = some (.ref fa) ->
      ∃ fd : FuncData, (∀ (s : Shared) (u : Value), BindsTo s fd ⟨[u], []⟩ [(x, u)]) /\
        ∀ base : Heap, (K w.params).In base -> base.Ns mainGlobals mg -> FnOk l.prog w (K w.params) mg base (CX w) k fa fd [x] (sp w))
    (hsp : ∀ (w : World) (H : Hp) (a : Addr) (ns : List Int), ns.length <= n -> Only H -> SqL (K w.params) H a (ns.map V.int) -> sp w [.ref a] H (fun v _ => v = .bl true) fun _ _ _ => False)
    (hCX : ∀ (w : World) (H : Hp) (s : Shared) (e : Value) (s' : Shared), CX w [] H s (fun _ _ _ => False) e s' -> False) :
    PySem.W.WalkO q loose XP YP l.row.toRowW d [] (fun f vs => PySem.call f vs) := by
  refine Att.attach_call hn hdf fun w s₀ s₁ mg mb fa o pm cd doc a vs ns G Y ho hd hcd hmg hobj hints hlen hg => ?_
  have KX := hY w _ Y
  obtain ⟨fd, hb, hF⟩ := F w mg fa _ KX G.T.g hmg
  exact law_call KX G.T.g G.T.b G.T.builtins G.T.nolimit hg hobj hints (Nat.le_trans hlen hn2) hr hF hb (fun H hO hS => hsp w H a ns hlen hO hS) fun H e s' => hCX w H s₁ e s'
end L2
/- THE LAST THEOREM (shape; LID, My.* are yours):
   My.Adr: a structure of the addresses that your layer names (classes, functions); My.Txt K t: a structure (Prop) of the equations over K;
   My.txt_mk : {K} {implicit addresses ..} (e1 : nsIn K mainGlobals "law" = some (some (.ref f))) (e2 : K.lookup f = some ⟨oc, od, .func (fnOf "law" "law" params body scope dV kV doc pm an cdv ct), sl⟩) (e3 : codeIn K cdv "law" = true) .. : ∃ t, My.Txt K t
set_option maxRecDepth 100000 in
set_option maxHeartbeats 0 in
theorem PySem.Challenge.cw_LID_holds : PySem.Challenge.rw_LID.Holds := by
  w_on; o_law; k_head; (case hw => w_witness2)
  k_fill
  refine L2.walk_of (l := PySem.Challenge.rw_LID) (n := 63) (k := 40) (x := "script") (CX := fun w => ..) (sp := fun _ => My.sp_law) rfl (by decide) rfl ⟨rfl, by decide, by decide⟩ (fun w h Y => PySem.W.kIn_of Y) ?F ?S ?C
  case F =>
    intro w mg fa h KX G hmg
    have T : ∃ t, My.Txt (L2.KOf KX) t := by
      dsimp only [L2.KOf]                          -- K must stand as «<heap const> w.params» for k_is
      refine' My.txt_mk ?e1 ?e2 ?e3 ..
      (case e1 => PySem.W.k_is)                    -- in the order: a name -> its address -> its object -> its parts
      (case e2 => PySem.W.k_is)
      ..
    obtain ⟨t, T⟩ := T
    have e0 := hmg.symm.trans (PySem.W.mg_of KX G T.law)
    cases e0                                       -- fa is the law's own address
    exact ⟨_, fun s u => .of_eq rfl, fun base kb nb => My.law_fn T kb nb⟩     -- if «.of_eq rfl» comes too early: refine' ⟨_, ?b, fun base kb nb => My.law_fn T kb nb⟩; exact fun s u => .of_eq rfl
  case S => exact fun w H a ns hl hO hS => ..
  case C => exact ..
(the tactic k_is has no namespace: write k_is) -/
namespace L2
open PySem PySem.Spec PyProof.Rows
def defArgs (s : Stmt) : Arguments := match s with
  | .FunctionDef _ a _ _ _ _ _ _ _ _ => a
  | _ => { posonlyargs := [], args := [], vararg := none, kwonlyargs := [], kw_defaults := [], kwarg := none, defaults := [] }
def defBody (s : Stmt) : List Stmt := match s with
  | .FunctionDef _ _ b _ _ _ _ _ _ _ => b
  | _ => []
def defScope (s : Stmt) : Scope := match s with
  | .FunctionDef _ _ _ _ _ _ sc _ _ _ => sc
  | _ => { kind := .function, names := [], isGenerator := false, isCoroutine := false }
abbrev CX0 : CXT := fun _ _ _ _ _ _ => False
abbrev E0 : XK := fun _ _ _ => False
theorem pass0 {X : Cx} : Passes CX0 X E0 := fun _ _ _ _ _ _ _ h => h.elim
structure Fun (K : PySem.W.Frag) (x qual : Str) (st : Stmt) (f : Addr) (fd : FuncData) : Prop where
  ex : ∃ (oc : Value) (od : Option Addr) (kV doc pm : Value) (an : Option Addr) (cdv ct : Value) (osl : Array (Option Value)),
    fd = PySem.W.fnOf x qual (defArgs st) (defBody st) (defScope st) .none kV doc pm an cdv ct /\ K.lookup f = some ⟨oc, od, .func fd, osl⟩ /\ PySem.W.codeIn K cdv qual = true
  kp : PySem.W.keepIn K (.ref f) = true
section
variable {P : Program} {w : World} {K : PySem.W.Frag} {mg : Str -> Option Value} {base : Heap}
theorem Fun.ok {x qual : Str} {st : Stmt} {f : Addr} {fd : FuncData} {N ps : List Str} {k : Nat} {sp : Sp} (F : Fun K x qual st f fd) (S : FnScope N ps (defScope st)) (len : ∀ vs H Q E, sp vs H Q E -> vs.length = ps.length)
    (hbody : ∀ (cdv : Value) (A : Around) (outer : List Env) (s : Shared) (H : Hp) (vs : List V) (Q : VK) (E : XK), Room k (A.deeper (envOfC qual (defScope st) s.heap.objs.size f cdv)) -> sp vs H Q E ->
      ∃ t, PSs (cxOf CX0 P w K mg base N qual (defScope st) f cdv A outer s H E).nox (defBody st) t /\ t { nx := fun _ H' => Q .non H', rt := Q } (start N vs) H) : FnOk P w K mg base CX0 (k + 1) f fd ps sp := by
  obtain ⟨oc, od, kV, doc, pm, an, cdv, ct, osl, rfl, lk, hcd⟩ := F.ex
  refine fn_of lk hcd S len fun A outer s H vs Q E hr hsp => ?_
  obtain ⟨t, h, q⟩ := hbody cdv A outer s H vs Q E hr hsp
  exact ⟨t, h.nox, q⟩
theorem Fun.binds {x qual : Str} {st : Stmt} {f : Addr} {fd : FuncData} {ps : List Str} (F : Fun K x qual st f fd)
    (h : ∀ (kV doc pm : Value) (an : Option Addr) (cdv ct : Value) (us : List Value), us.length = ps.length -> bindArgs (PySem.W.fnOf x qual (defArgs st) (defBody st) (defScope st) .none kV doc pm an cdv ct) ⟨us, []⟩ = pure (ps.zip us)) : Binds K fd ps [] := by
  obtain ⟨oc, od, kV, doc, pm, an, cdv, ct, osl, rfl, lk, hcd⟩ := F.ex
  exact .all (h kV doc pm an cdv ct)
theorem fun_mk {x qual : Str} {st : Stmt} {f : Addr} {oc : Value} {od an : Option Addr} {osl : Array (Option Value)} {kV doc pm cdv ct : Value} (l : K.lookup f = some ⟨oc, od, .func (PySem.W.fnOf x qual (defArgs st) (defBody st) (defScope st) .none kV doc pm an cdv ct), osl⟩)
    (c : PySem.W.codeIn K cdv qual = true) (k : PySem.W.keepIn K (.ref f) = true) : Fun K x qual st f (PySem.W.fnOf x qual (defArgs st) (defBody st) (defScope st) .none kV doc pm an cdv ct) := ⟨⟨oc, od, kV, doc, pm, an, cdv, ct, osl, rfl, l, c⟩, k⟩
end
theorem hu_of {A : Around} {k : Nat} (hr : Room k A) : A.units + 1 < cLine := Nat.lt_of_le_of_lt (Nat.add_le_add_left (by decide : 1 <= 64) _) hr.units
section
variable {X : Cx}
theorem pv (i : Nat) {x : Str} {pos : Pos} (hN : X.N[i]? = some x := by rfl) (hv : Vis X.env.scope x := by first | exact Or.inl rfl | exact Or.inr (Or.inl rfl) | exact Or.inr (Or.inr rfl)) (hd : (x == ("__debug__" : Str)) = false := by decide)
    (hcd : (x == ("__classdict__" : Str)) = false := by decide) : PE X (.Name x pos) (tVar i) := pe_var hN hv hd hcd
end
theorem iteF {A B : Prop} (h : B) : if false = true then A else B := by
  rw [if_neg Bool.false_ne_true]
  exact h
theorem iteT {A B : Prop} (h : A) : if true = true then A else B := by
  rw [if_pos rfl]
  exact h
theorem ite2 {c A B : Prop} [Decidable c] (h1 : c -> A) (h2 : ¬ c -> B) : if c then A else B := by
  by_cases h : c
  · rw [if_pos h]
    exact h1 h
  · rw [if_neg h]
    exact h2 h
def Same (H H' : Hp) : Prop := ∀ b o, H b = some o -> H' b = some o
theorem Same.refl (H : Hp) : Same H H := fun _ _ h => h
theorem Same.trans {H H1 H2 : Hp} (a : Same H H1) (b : Same H1 H2) : Same H H2 := fun c o h => b c o (a c o h)
theorem Same.seq {K : PySem.W.Frag} {H H' : Hp} {a : Addr} {xs : List V} (e : Same H H') (h : SqL K H a xs) : SqL K H' a xs := by
  rcases h with (h | ⟨o, h⟩) | h
  · exact .inl (.inl (e _ _ h))
  · exact .inl (.inr ⟨o, e _ _ h⟩)
  · exact .inr h
def PIfs (X : Cx) (ifs : List Expr) (t : TT) : Prop :=
  ∀ (pins : List (Addr × Obj)) (s : Shared) (σ : St) (H : Hp) (Q : Bool -> Hp -> Prop), Inv X pins σ H s -> t σ H Q ->
    wpAny (model X.prog X.w) X.A (forIn ifs true fun c r => if r = true then do
      let ok <- isTrue c X.env (eval c X.env)
      pure (ForInStep.yield ok) else pure (ForInStep.yield r)) (TP X pins σ Q) X.xe s
def tYes : TT := fun _ H Q => Q true H
theorem pifs_nil {X : Cx} : PIfs X [] tYes := fun _ _ _ H _ I h => wpAny_tests_nil ⟨H, I, h⟩
theorem pifs_one {X : Cx} {c : Expr} {t : TT} (h : PT X c t) : PIfs X [c] t := fun pins s σ H Q I hw => wpAny_tests_one (h pins s σ H Q I hw)
def clOf (env : Env) : List (Str × NameKind) -> List (Str × Addr) -> List (Str × Addr)
  | [], cs => cs
  | (n, k) :: r, cs => clOf env r (if (k == NameKind.free) = true then (n, (env.cells.lookup n).getD 0) :: cs else cs)
theorem clOf_loop {env : Env} : ∀ (names : List (Str × NameKind)) (cs : List (Str × Addr)), (∀ x ∈ names, x.2 = .free -> ∃ c, env.cells.lookup x.1 = some c) ->
    (forIn names cs fun (x : Str × NameKind) (r : List (Str × Addr)) => (if (x.2 == NameKind.free) = true then do
      let a <- cellOf env x.1
      pure (ForInStep.yield ((x.1, a) :: r)) else pure (ForInStep.yield r) : Sem (ForInStep (List (Str × Addr))))) = pure (clOf env names cs)
  | [], cs, _ => rfl
  | (n, k) :: r, cs, h => by
    rw [List.forIn_cons]
    by_cases hk : (k == NameKind.free) = true
    · obtain ⟨c, hc⟩ := h (n, k) List.mem_cons_self (by simpa using hk)
      have hc' : env.cells.lookup n = some c := hc
      have e1 : cellOf env n = pure c := by unfold cellOf; rw [hc']
      simp only [hk, if_true, e1, pure_bind]
      rw [clOf_loop r _ fun x hx => h x (List.mem_cons_of_mem _ hx)]
      simp [clOf, hk, hc']
    · simp only [hk, pure_bind]
      rw [if_neg (by simp), pure_bind]
      dsimp only
      rw [clOf_loop r _ fun x hx => h x (List.mem_cons_of_mem _ hx)]
      simp [clOf, hk]
theorem closure_is {scope : Scope} {env : Env} (h : ∀ x ∈ scope.names, x.2 = .free -> ∃ c, env.cells.lookup x.1 = some c) : closureFor scope env = pure (clOf env scope.names []) := by
  have e := clOf_loop scope.names [] h
  simp only [closureFor]
  first
    | (rw [e]; rfl)
    | (refine Eq.trans (congrArg (fun t => t >>= _) e) ?_; rfl)
    | (simp only [e]; rfl)
theorem clOf_get {env : Env} {x : Str} {c : Addr} : ∀ (names : List (Str × NameKind)) (cs : List (Str × Addr)), (∀ y ∈ names, y.2 = .free -> ∃ d, env.cells.lookup y.1 = some d) ->
    (clOf env names cs).lookup x = some c -> cs.lookup x = some c \/ env.cells.lookup x = some c
  | [], cs, _, e => .inl e
  | (n, k) :: r, cs, h, e => by
    have e' : (clOf env r (if (k == NameKind.free) = true then (n, (env.cells.lookup n).getD 0) :: cs else cs)).lookup x = some c := e
    rcases clOf_get r _ (fun y hy => h y (List.mem_cons_of_mem _ hy)) e' with q | q
    · by_cases hk : (k == NameKind.free) = true
      · rw [if_pos hk] at q
        obtain ⟨d, hd⟩ := h (n, k) List.mem_cons_self (by simpa using hk)
        have hd' : env.cells.lookup n = some d := hd
        rw [List.lookup_cons] at q
        by_cases hx : (x == n) = true
        · rw [hx] at q
          have ex : x = n := by simpa using hx
          subst ex
          rw [hd'] at q
          simp at q
          exact .inr (by rw [hd', q])
        · simp only [hx] at q
          exact .inl q
      · rw [if_neg hk] at q
        exact .inl q
    · exact .inr q
theorem clOf_keep {env : Env} {x : Str} : ∀ (names : List (Str × NameKind)) (cs : List (Str × Addr)), (∃ c, cs.lookup x = some c) -> ∃ c, (clOf env names cs).lookup x = some c
  | [], cs, h => h
  | (n, k) :: r, cs, h => by
    refine clOf_keep r _ ?_
    by_cases hk : (k == NameKind.free) = true
    · rw [if_pos hk, List.lookup_cons]
      cases hx : x == n with
      | true => exact ⟨_, rfl⟩
      | false => exact h
    · rw [if_neg hk]; exact h
theorem clOf_has {env : Env} {x : Str} : ∀ (names : List (Str × NameKind)) (cs : List (Str × Addr)), (x, NameKind.free) ∈ names -> ∃ c, (clOf env names cs).lookup x = some c
  | (n, k) :: r, cs, h => by
    show ∃ c, (clOf env r (if (k == NameKind.free) = true then (n, (env.cells.lookup n).getD 0) :: cs else cs)).lookup x = some c
    rcases List.mem_cons.mp h with e | e
    · cases e
      refine clOf_keep r _ ⟨(env.cells.lookup x).getD 0, ?_⟩
      rw [if_pos (by rfl), List.lookup_cons]
      simp
    · exact clOf_has r _ e
def relN (env : Env) (names : List (Str × NameKind)) : List (Str × NameKind) :=
  names.map fun (n, k) => if (k == NameKind.free && env.scope.kind == .function && env.kindOf n == some .cell) then (n, NameKind.cell) else (n, k)
theorem relN_get {env : Env} {x : Str} {k' : NameKind} : ∀ (names : List (Str × NameKind)), (relN env names).lookup x = some k' -> ∃ k, names.lookup x = some k /\ (k' = k \/ (k = .free /\ k' = .cell))
  | [], h => by simp [relN] at h
  | (n, k) :: r, h => by
    have ih := relN_get (env := env) (x := x) (k' := k') r
    have h' : ((if (k == NameKind.free && env.scope.kind == .function && env.kindOf n == some .cell) = true then (n, NameKind.cell) else (n, k)) :: relN env r).lookup x = some k' := h
    by_cases hc : (k == NameKind.free && env.scope.kind == .function && env.kindOf n == some .cell) = true
    · rw [if_pos hc, List.lookup_cons] at h'
      rw [List.lookup_cons]
      cases hx : x == n with
      | true =>
        rw [hx] at h'
        have h2 : NameKind.cell = k' := Option.some.inj h'
        have hk : k = .free := by
          cases k <;> first | rfl | (simp at hc)
        exact ⟨k, rfl, .inr ⟨hk, h2.symm⟩⟩
      | false =>
        rw [hx] at h'
        exact ih h'
    · rw [if_neg hc, List.lookup_cons] at h'
      rw [List.lookup_cons]
      cases hx : x == n with
      | true =>
        rw [hx] at h'
        exact ⟨k, rfl, .inl (Option.some.inj h').symm⟩
      | false =>
        rw [hx] at h'
        exact ih h'
def cxComp (X : Cx) (scope : Scope) (N' : List Str) (fp : List Addr) (C : Addr) (s : Shared) (H : Hp) : Cx where
  prog := X.prog
  w := X.w
  K := X.K
  mg := X.mg
  base := X.base
  A := X.A
  N := N'
  s₀ := s
  H₀ := H
  env := compEnvC scope (clOf X.env scope.names []) C X.env
  outer := X.stack
  stack := X.stack
  ex := fp
  fn := fun _ => false
  calm := true
  pn := X.pn
  xe := fun _ _ => False
def stComp (fr : List (Option Nat)) (σ : St) : St := fr.map fun o => o.bind fun j => (σ[j]?).join
def frOk (N : List Str) (kinds names : List (Str × NameKind)) (N' : List Str) (fr : List (Option Nat)) : Bool :=
  (N'.length == fr.length) && (N'.zip fr).all fun p => match p.2 with
    | none => true
    | some j => N[j]? == some p.1 && names.lookup p.1 == some NameKind.free && (kinds.lookup p.1 == some NameKind.cell || kinds.lookup p.1 == some NameKind.free)
theorem frOk_at {N : List Str} {kinds names : List (Str × NameKind)} {N' : List Str} {fr : List (Option Nat)} (h : frOk N kinds names N' fr = true) {i j : Nat} {x : Str} (h1 : N'[i]? = some x) (h2 : fr[i]? = some (some j)) :
    N[j]? = some x /\ names.lookup x = some NameKind.free /\ (kinds.lookup x = some NameKind.cell \/ kinds.lookup x = some NameKind.free) := by
  unfold frOk at h
  rw [Bool.and_eq_true, List.all_eq_true] at h
  have hm : (x, some j) ∈ N'.zip fr := by
    refine List.mem_of_getElem? (i := i) ?_
    rw [List.getElem?_zip_eq_some]
    exact ⟨h1, h2⟩
  have q := h.2 _ hm
  simp only [Bool.and_eq_true, Bool.or_eq_true, beq_iff_eq] at q
  exact ⟨q.1.1, q.1.2, q.2⟩
structure CompOk (X : Cx) (scope : Scope) (N' : List Str) (fr : List (Option Nat)) : Prop where
  kind : scope.kind = .function
  cells : ∀ y ∈ scope.names, y.2 ≠ .cell
  names : ∀ y ∈ scope.names, y.2 = .local -> scope.names.lookup y.1 = some .local
  frees : ∀ y ∈ scope.names, y.2 = .free -> X.env.kindOf y.1 = some .cell \/ X.env.kindOf y.1 = some .free
  fr : frOk X.N X.env.scope.names scope.names N' fr = true
section
variable {X : Cx} {scope : Scope} {N' : List Str} {fr : List (Option Nat)} {pins : List (Addr × Obj)} {σ : St} {H : Hp} {s : Shared} {fp : List Addr}
theorem CompOk.has (c : CompOk X scope N' fr) (ok : X.Ok) : ∀ y ∈ scope.names, y.2 = .free -> ∃ d, X.env.cells.lookup y.1 = some d := fun y hy h => ok.has _ (c.frees y hy h)
theorem inv_comp {C : Addr} {h' : Heap} {tk : Nat} {m : Str -> Option Value} (c : CompOk X scope N' fr) (hc : X.calm = true) (I : Inv X pins σ H s) (hf : ∀ b ∈ fp, FpOk X pins H b) (hlt : ∀ b ∈ fp, b < s.heap.objs.size)
    (old : ∀ b o, s.heap.get? b = some o -> h'.get? b = some o) (hC : s.heap.objs.size <= C) (hn : h'.Ns C m) :
    Inv (cxComp X scope N' fp C s H) pins (stComp fr σ) H { s with heap := h', toks := tk } := by
  have get : ∀ x d, (clOf X.env scope.names []).lookup x = some d -> X.env.cells.lookup x = some d := fun x d e => by
    rcases clOf_get scope.names [] (c.has I.ok) e with q | q
    · simp at q
    · exact q
  have old2 : ∀ b, b < s.heap.objs.size -> b ≠ C := fun b hb => Nat.ne_of_lt (Nat.lt_of_lt_of_le hb hC)
  have hl : (stComp fr σ).length = N'.length := by
    have q := c.fr
    unfold frOk at q
    rw [Bool.and_eq_true] at q
    have q1 : N'.length = fr.length := by simpa using q.1
    rw [stComp, List.length_map, q1]
  refine ⟨⟨I.ok.mod, c.kind, I.ok.glob, I.ok.blt, hC, ?_, ?_, (fun _ _ z => nomatch z), fun _ => I.ok.hd hc, I.ok.frames, .inl rfl, ?_, I.bs, Nat.le_trans I.ok.bsz I.sz, ?_, ?_, I.stack, I.stkFree⟩, rfl, I.bare, Un.kept old, ⟨m, hn, ?_⟩, ?_, I.hok.fresh hC, ?_, ?_, I.hok.kept old, hl⟩
  · exact fun x y d e1 e2 => I.ok.inj x y d (get x d e1) (get y d e2)
  · intro x hx
    have hx' : (relN X.env scope.names).lookup x = some .cell \/ (relN X.env scope.names).lookup x = some .free := hx
    have fin : scope.names.lookup x = some .free -> ∃ d, (clOf X.env scope.names []).lookup x = some d := fun e => clOf_has scope.names [] (PySem.mem_of_lookup e)
    rcases hx' with q | q
    · obtain ⟨k, e, z⟩ := relN_get scope.names q
      rcases z with z | ⟨z, _⟩
      · subst z
        exact absurd rfl (c.cells _ (PySem.mem_of_lookup e))
      · subst z
        exact fin e
    · obtain ⟨k, e, z⟩ := relN_get scope.names q
      rcases z with z | ⟨_, z⟩
      · subst z
        exact fin e
      · cases z
  · exact fun b hb => ⟨old2 b (hlt b hb), fun x d e => (hf b hb).2.2.2.2.1 x d (get x d e)⟩
  · intro b o e hb
    rcases (hf b hb).2.2.2.1 with z | z
    · exact I.ok.noex b o e z
    · exact absurd (Nat.lt_of_lt_of_le (Heap.lt_size e) (Nat.le_trans I.ok.bsz z)) (Nat.lt_irrefl _)
  · intro b hb hs
    rcases List.mem_cons.mp (I.stkSub b hs) with z | z
    · exact (hf b hb).2.1 z
    · exact (hf b hb).2.2.1 z
  · intro i x v e1 e2 e3
    have e2' : (fr.map fun o => o.bind fun j => (σ[j]?).join)[i]? = some (some v) := e2
    rw [List.getElem?_map] at e2'
    cases q : fr[i]? with
    | none => rw [q] at e2'; cases e2'
    | some o =>
      rw [q] at e2'
      have e3' : (o.bind fun j => (σ[j]?).join) = some v := Option.some.inj e2'
      cases o with
      | none => cases e3'
      | some j =>
        have e4 : (σ[j]?).join = some v := e3'
        have e5 : σ[j]? = some (some v) := by
          cases z : σ[j]? with
          | none => rw [z] at e4; cases e4
          | some w => rw [z] at e4; exact congrArg some e4
        obtain ⟨f1, f2, f3⟩ := frOk_at c.fr e1 q
        obtain ⟨m0, hn0, hl0⟩ := I.loc
        have vis : Vis X.env.scope x := f3.elim (fun z => .inr (.inl z)) fun z => .inr (.inr z)
        obtain ⟨u, r, look⟩ := hl0 j x v f1 e5 vis
        refine ⟨u, r, ?_⟩
        rcases look with ⟨k, _⟩ | ⟨k, d, hd, hcell⟩
        · have k' : X.env.scope.names.lookup x = some .local := k
          rcases f3 with z | z <;> (rw [k'] at z; cases z)
        · refine .inr ⟨?_, d, ?_, ?_⟩
          · have e3'' : (relN X.env scope.names).lookup x = some .local \/ (relN X.env scope.names).lookup x = some .cell \/ (relN X.env scope.names).lookup x = some .free := e3
            rcases e3'' with z | z | z
            · obtain ⟨k2, e, z2⟩ := relN_get scope.names z
              rw [f2] at e
              cases e
              rcases z2 with z2 | ⟨_, z2⟩ <;> cases z2
            · exact .inl z
            · exact .inr z
          · obtain ⟨d', e⟩ := clOf_has (env := X.env) scope.names [] (PySem.mem_of_lookup f2)
            have := get x d' e
            rw [hd] at this
            cases this
            exact e
          · obtain ⟨ob, h1, h2⟩ := hcell
            exact ⟨ob, old _ _ h1, h2⟩
  · intro x d e
    obtain ⟨v, ob, h1, h2⟩ := I.cell x d (get x d e)
    exact ⟨v, ob, old _ _ h1, h2⟩
  · exact fun x d e => I.freeC x d (get x d e)
  · intro p hp
    obtain ⟨e, n, ne, nf, dd⟩ := I.pin p hp
    refine ⟨old _ _ e, n, old2 _ (Heap.lt_size e), fun hs => ?_, dd⟩
    rcases List.mem_cons.mp (I.stkSub p.1 hs) with z | z
    · exact ne z
    · exact nf z
end
section
variable {prog : Program} {w : World} {A : Around} {R : Result -> Shared -> Prop} {s : Shared}
theorem comp_loop {elt tg iter : Expr} {ifs : List Expr} {scope : Scope} {pos : Pos} {it acc : Value} {env : Env} (J : Nat -> Shared -> Prop)
    (turn : ∀ n s, J n s -> wpAny (model prog w) A (pyNext it) (fun r s1 => match r with
      | none => R (.ok .next) s1
      | some v => wpAny (model prog w) A (letOwnedTupleGo tg it v) (fun _ s2 => wpAny (model prog w) A (assign tg env v) (fun _ s3 =>
          wpAny (model prog w) A (forIn ifs true fun c r => if r = true then do
            let ok <- isTrue c env (eval c env)
            pure (ForInStep.yield ok) else pure (ForInStep.yield r)) (fun ok s4 =>
              if ok = true then wpAny (model prog w) A (eval elt env) (fun x s5 =>
                wpAny (model prog w) A (call (.builtin "list.append") [acc, x]) (fun _ s6 => ∃ m, m < n /\ J m s6) (fun _ _ => False) s5) (fun _ _ => False) s4
              else ∃ m, m < n /\ J m s4) (fun _ _ => False) s3) (fun _ _ => False) s2) (fun _ _ => False) s1) (fun _ _ => False) s)
    (n : Nat) (h : J n s) : codeAny (model prog w) A (.compLoop (.ListComp elt [⟨tg, iter, ifs, 0⟩] scope pos) 0 it acc env) R s := by
  refine codeAny_loop rfl J (fun k s1 hJ => ?_) n h
  show wpAny _ A ((compTurn (.ListComp elt [⟨tg, iter, ifs, 0⟩] scope pos) 0 it acc env).onRaise (fun y => do noteFrame y env; theTreesLotGoes y)) _ _ s1
  refine wpAny_noted (wpAny_mono (E := fun _ _ => False) ?_ (fun _ _ q => q) fun _ _ z => z.elim)
  rw [compTurn_list]
  refine wpAny_bind (wpAny_standAt (wpAny_bind (thn (turn k s1 hJ) fun r s2 h2 => ?_)))
  cases r with
  | none => exact wpAny_pure h2
  | some v =>
    refine wpAny_bind (thn h2 fun _ s3 h3 => wpAny_bind (thn h3 fun _ s4 h4 => wpAny_bind (thn h4 fun ok s5 h5 => ?_)))
    cases ok with
    | false => exact wpAny_pure ⟨rfl, h5⟩
    | true =>
      refine wpAny_bind (wpAny_bind (thn h5 fun x s6 h6 => wpAny_bind (thn h6 fun _ s7 h7 => ?_)))
      exact wpAny_pure (wpAny_pure ⟨rfl, h7⟩)
end
theorem HOk.track {P : Program} {w : World} {H : Hp} {h : Heap} {a : Addr} {o : HO} (ok : HOk P w H h) (hn : H a = none) (new : ObjOk P w (upd H a o) h a o) : HOk P w (upd H a o) h := fun b u q => by
  by_cases hb : b = a
  · subst hb
    rw [upd_same] at q
    cases q
    exact new
  · rw [upd_ne hb] at q
    exact (ok b u q).stay (fun _ _ _ r => r) (fun c r => by rw [upd_ne (ne_of_none r hn)]; exact r) fun c xs r => by rw [upd_ne (ne_of_none r hn)]; exact r
def CompW (J : It) (g : TG) (tt : TT) (te : TE) (fin : List V -> Hp -> Prop) (W : Nat -> Nat -> List V -> St -> Hp -> Prop) : Prop :=
  ∀ i m ys σ H, W i m ys σ H -> (J.stop i H /\ ys.length <= sizeLine /\ fin ys H) \/ (J.go i H /\ ys.length < sizeLine /\ ∀ x H', J.yld i H x H' -> g x σ H' fun σ2 H2 => tt σ2 H2 fun b H3 =>
    if b = true then te σ2 H3 fun y H4 => ∃ m', m' < m /\ W (i + 1) m' (ys ++ [y]) σ2 H4 else ∃ m', m' < m /\ W (i + 1) m' ys σ2 H3)
section
variable {X : Cx} {scope : Scope} {N' : List Str} {fr : List (Option Nat)} {pins : List (Addr × Obj)} {σ : St} {H : Hp} {s : Shared} {fp : List Addr} {it : Addr} {tn : Nat -> Heap -> Prop} {J : It}
  {elt tg iter : Expr} {ifs : List Expr} {g : TG} {tt : TT} {te : TE} {pos : Pos} {fin : List V -> Hp -> Prop} {W : Nat -> Nat -> List V -> St -> Hp -> Prop} {RR : Value -> Addr -> Result -> Shared -> Prop} {E : Value -> Shared -> Prop}
theorem comp_block (c : CompOk X scope N' fr) (hc : X.calm = true) (I : Inv X pins σ H s) (T : Turn X.prog X.w X.K tg J fp it tn) (st : tn 0 s.heap) (hf : ∀ b ∈ fp, FpOk X pins H b)
    (hg : ∀ fp C s H, PG (cxComp X scope N' fp C s H) tg g) (ht : ∀ fp C s H, PIfs (cxComp X scope N' fp C s H) ifs tt) (he : ∀ fp C s H, PE (cxComp X scope N' fp C s H) elt te)
    (hW : CompW J g tt te fin W) (h0 : ∃ m, W 0 m [] (stComp fr σ) H)
    (hRR : ∀ D C ys H' s', Inv X pins σ (upd H' D (.lst ys)) s' -> (∃ m, s'.heap.Ns C m) -> FpOk X pins (upd H' D (.lst ys)) C -> H' D = none -> fin ys H' -> RR (.ref D) C (.ok .next) s') :
    wpAny (model X.prog X.w) X.A (newList []) (fun acc s3 => wpAny (model X.prog X.w) X.A (newFunctionEnv scope X.env.globals (clOf X.env scope.names []) [] X.env.qual none .none (some X.env)) (fun cenv s4 =>
      codeAny (model X.prog X.w) X.A (.compStart (.ListComp elt [⟨tg, iter, ifs, 0⟩] scope pos) 0 (.ref it) acc { cenv with scope := relabel scope X.env }) (RR acc cenv.locals) s4) E s3) E s := by
  refine wpAny_newObj_type (wpAny_newFunctionEnv c.cells (by intro y hy; simp at hy) (fun h1 hns hsb => ?_) c.kind)
  dsimp only at hns hsb ⊢
  generalize hH2 : s.heap.push { cls := .type "list", dict := none, data := .seq ([] : List Value).toArray } = H2 at hns hsb ⊢
  have hD0 : s.heap.objs.size < H2.objs.size := by rw [<- hH2, Heap.size_push]; exact Nat.lt_succ_self _
  generalize hDD : s.heap.objs.size = D at hD0 ⊢
  generalize hCC : H2.objs.size = C at hns hsb hD0 ⊢
  have up : ∀ b o, s.heap.get? b = some o -> h1.get? b = some o := fun b o e => hsb.extBut b o (by
    have := Heap.lt_size e
    rw [hDD] at this
    exact Nat.ne_of_lt (Nat.lt_trans this hD0)) (Heap.get?_push_of_some _ (by rw [<- hH2]; exact Heap.get?_push_of_some _ e))
  have accD : h1.get? D = some { cls := .type "list", dict := none, data := .seq ([] : List Value).toArray } := hsb.extBut _ _ (Nat.ne_of_lt hD0) (Heap.get?_push_of_some _ (by rw [<- hH2, <- hDD]; exact Heap.get?_push_size _ rfl))
  have hlt : ∀ b ∈ fp, b < s.heap.objs.size := fun b hb => by
    obtain ⟨o, e, _⟩ := T.obj 0 _ st b hb
    exact Heap.lt_size e
  have hle : s.heap.objs.size <= C := by rw [hDD]; exact Nat.le_of_lt hD0
  generalize hX' : cxComp X scope N' fp C s H = X'
  have I1 : Inv X' pins (stComp fr σ) H { s with heap := h1, toks := s.toks + ([] : List (Str × Value)).length } := by
    subst hX'
    exact inv_comp c hc I hf hlt up hle hns
  have st1 : tn 0 h1 := T.keep _ _ _ st fun b hb o e => up b o e
  have pm : X'.prog = X.prog := by subst hX'; rfl
  have wm : X'.w = X.w := by subst hX'; rfl
  have km : X'.K = X.K := by subst hX'; rfl
  have cm : X'.calm = true := by subst hX'; rfl
  have am : X'.A = X.A := by subst hX'; rfl
  have xm : X'.xe = fun _ _ => False := by subst hX'; rfl
  have lm : X'.env.locals = C := by subst hX'; rfl
  have szm : X'.s₀.heap.objs.size = s.heap.objs.size := by subst hX'; rfl
  have nm : X'.pn = X.pn := by subst hX'; rfl
  have hg' := hg fp C s H
  have ht' := ht fp C s H
  have he' := he fp C s H
  have em : X'.env = compEnvC scope (clOf X.env scope.names []) C X.env := by subst hX'; rfl
  have fsm : X'.fs = frs X.stack := by subst hX'; rfl
  have exm : X'.ex = fp := by subst hX'; rfl
  rw [hX'] at hg' ht' he'
  have ageP : ∀ p ∈ X.pn ++ pins, p.1 < D := fun p hp => by rw [<- hDD]; exact Heap.lt_size (I.pin p hp).1
  have ageC : ∀ x d, X'.env.cells.lookup x = some d -> d < D := fun x d e => by
    rw [em] at e
    rcases clOf_get scope.names [] (c.has I.ok) e with q | q
    · simp at q
    · obtain ⟨v, z⟩ := I.cell x d q
      rw [<- hDD]
      exact z.lt
  have cellF : ∀ x d, X'.env.cells.lookup x = some d -> X.env.cells.lookup x = some d := fun x d e => by
    rw [em] at e
    rcases clOf_get scope.names [] (c.has I.ok) e with q | q
    · simp at q
    · exact q
  have fps : ∀ {H' : Hp} {oD : Obj}, (∀ b ∈ fp, H' b = none) -> ∀ b ∈ fp, FpOk X' (pins ++ [(D, oD)]) H' b := fun {H' oD} hn b hb => by
    obtain ⟨_, f1, f2, f3, f4, f5⟩ := hf b hb
    have hbD : b < D := by rw [<- hDD]; exact hlt b hb
    refine ⟨hn b hb, ?_, ?_, .inl (by rw [exm]; exact hb), fun x d e => f4 x d (cellF x d e), fun p hp => ?_⟩
    · rw [lm]; exact Nat.ne_of_lt (Nat.lt_trans hbD hD0)
    · rw [fsm]
      intro hs
      rcases List.mem_cons.mp (I.stkSub b hs) with z | z
      · exact f1 z
      · exact f2 z
    · rw [nm, <- List.append_assoc] at hp
      rcases List.mem_append.mp hp with z | z
      · exact f5 p z
      · rw [List.mem_singleton.mp z]
        exact Nat.ne_of_gt hbD
  have pinD : ∀ {σ' : St} {H' : Hp} {s' : Shared} {its : List Value} {k : Nat}, Inv X' pins σ' H' s' -> s'.heap.get? D = some { cls := .type "list", data := .seq its.toArray k } -> H' D = none ->
      Inv X' (pins ++ [(D, { cls := .type "list", data := .seq its.toArray k })]) σ' H' s' := fun {σ' H' s' its k} J0 e n => J0.pins_of fun p hp => by
    rcases List.mem_append.mp hp with z | z
    · exact J0.pin p (List.mem_append_right _ z)
    · rw [List.mem_singleton.mp z]
      refine ⟨e, n, ?_, ?_, fun v q => by cases q⟩
      · show D ≠ X'.env.locals
        rw [lm]
        exact Nat.ne_of_lt hD0
      · rw [fsm]
        intro hs
        have hb := I.stkSub D hs
        rcases List.mem_cons.mp hb with z | z
        · have := I.lt
          rw [<- z, hDD] at this
          exact Nat.lt_irrefl _ this
        · exact I.nofs (Nat.le_of_eq hDD) z
  have loop : ∀ s0 : Shared, s0 = { s with heap := h1, toks := s.toks + ([] : List (Str × Value)).length } ->
      codeAny (model X.prog X.w) X.A (.compLoop (.ListComp elt [⟨tg, iter, ifs, 0⟩] scope pos) 0 (.ref it) (.ref D) X'.env) (RR (.ref D) C) s0 := by
    rintro s0 rfl
    obtain ⟨m0, w0⟩ := h0
    refine comp_loop (fun n s' => ∃ i ys σ' H' its k, Inv X' pins σ' H' s' /\ tn i s'.heap /\ (∀ b ∈ fp, H' b = none) /\ s'.heap.get? D = some { cls := .type "list", data := .seq (its : List Value).toArray k } /\ H' D = none /\ Vals ys its /\ W i n ys σ' H')
      ?_ m0 ⟨0, [], stComp fr σ, H, [], 0, I1, st1, fun b hb => (hf b hb).1, accD, I.hok.fresh (by rw [hDD]; exact Nat.le_refl _), .nil, w0⟩
    rintro n s1 ⟨i, ys, σ1, H1, its, k, J1, t1, n1, d1, nD1, v1, w1⟩
    have J1' := pinD J1 d1 nD1
    rcases hW i n ys σ1 H1 w1 with ⟨stop, hlen, fi⟩ | ⟨go, hlen, step⟩
    · have a1 := T.done X' pm wm km cm i _ s1 σ1 H1 (fun _ _ => False) J1' (fps n1) t1 stop
      rw [am] at a1
      refine thn a1 fun r s2 ⟨hr, J2⟩ => ?_
      subst hr
      obtain ⟨d2, nD2, _⟩ := J2.pin (D, _) (List.mem_append_right _ (List.mem_append_right _ List.mem_cons_self))
      have u2 : Un (frs X.stack) fp H H1 s.heap s2.heap := by
        have := J2.base
        subst hX'
        exact this
      have hok2 : HOk X.prog X.w (upd H1 D (.lst ys)) s2.heap := by
        have h2 := J2.hok
        rw [pm, wm] at h2
        exact h2.track nD1 ⟨hlen, its, k, v1, d2⟩
      have J3 : Inv X pins σ (upd H1 D (.lst ys)) s2 := by
        refine I.call' (ch := fp) (by have := J2.os; subst hX'; exact this) ⟨fun b o e n hb hx => u2.keep b o e n hb hx, fun b o e n hb hx => u2.slot b o e n hb hx, fun b o e n hx => ?_, fun b o e hx => u2.there b o e hx, fun b xs e => ?_, fun b o u e => ?_, fun b ps e => ?_⟩ hok2 J2.bare fun b hb => ?_
        · have ne : b ≠ D := Nat.ne_of_lt (by rw [<- hDD]; exact Heap.lt_size e)
          rw [upd_ne ne]
          exact u2.free b o e n hx
        · have q := u2.tups b xs e
          rw [upd_ne (ne_of_none q nD1)]
          exact q
        · have q := u2.frzs b o u e
          rw [upd_ne (ne_of_none q nD1)]
          exact q
        · obtain ⟨more, q⟩ := u2.tbls b ps e
          exact ⟨more, by rw [upd_ne (ne_of_none q nD1)]; exact q⟩
        · obtain ⟨_, f1, f2, f3, f4, f5⟩ := hf b hb
          exact ⟨f3, f1, f4, f5⟩
      have nC : (upd H1 D (.lst ys)) C = none := by
        rw [upd_ne (Nat.ne_of_gt hD0)]
        have := J2.free
        rw [lm] at this
        exact this
      refine hRR D C ys H1 s2 J3 ?_ (I.fpOk hle nC) nD1 fi
      obtain ⟨m, hm, _⟩ := J2.loc
      rw [lm] at hm
      exact ⟨m, hm⟩
    · have a1 := T.item X' pm wm km cm i _ s1 σ1 H1 (fun _ _ => False) J1' (fps n1) t1 go
      rw [am] at a1
      refine thn a1 fun r s2 ⟨u, hr, h2⟩ => ?_
      subst hr
      refine thn h2 fun _ s3 ⟨x, H3, J3, r3, y3, t3, n3⟩ => ?_
      have J3' := J3.pinned (fps n3) (T.obj _ _ t3)
      have a3 := hg' _ s3 σ1 H3 x u _ J3' r3 (step x H3 y3)
      rw [pm, wm, am, xm] at a3
      refine thn a3 fun _ s4 ⟨σ4, H4, J4, q4⟩ => ?_
      have a4 := ht' _ s4 σ4 H4 _ J4 q4
      rw [pm, wm, am, xm] at a4
      refine thn a4 fun ok s5 ⟨H5, J5, q5⟩ => ?_
      have keepT : ∀ {σ' : St} {H' : Hp} {s' : Shared}, Inv X' (pins ++ [(D, { cls := .type "list", data := .seq its.toArray k })] ++ pinsAt fp s3.heap) σ' H' s' -> tn (i + 1) s'.heap /\ (∀ b ∈ fp, H' b = none) /\ s'.heap.get? D = some { cls := .type "list", data := .seq its.toArray k } /\ H' D = none /\ Inv X' pins σ' H' s' := fun {σ' H' s'} J0 => by
        refine ⟨T.keep _ _ _ t3 fun b hb o e => (J0.pin (b, o) (List.mem_append_right _ (List.mem_append_right _ (mem_pinsAt hb e)))).1, fun b hb => ?_, ?_, ?_, J0.unpinned.unpinned⟩
        · obtain ⟨o, e, _⟩ := T.obj _ _ t3 b hb
          exact (J0.pin (b, o) (List.mem_append_right _ (List.mem_append_right _ (mem_pinsAt hb e)))).2.1
        · exact (J0.pin (D, _) (List.mem_append_right _ (List.mem_append_left _ (List.mem_append_right _ List.mem_cons_self)))).1
        · exact (J0.pin (D, { cls := .type "list", data := .seq its.toArray k }) (List.mem_append_right _ (List.mem_append_left _ (List.mem_append_right _ List.mem_cons_self)))).2.1
      cases ok with
      | false =>
        obtain ⟨m', hm, w'⟩ := q5
        obtain ⟨e1, e2, e3, e4, e5⟩ := keepT J5
        rw [if_neg Bool.false_ne_true]
        exact ⟨m', hm, i + 1, ys, σ4, H5, its, k, e5, e1, e2, e3, e4, v1, w'⟩
      | true =>
        rw [if_pos rfl]
        have a5 := he' _ s5 σ4 H5 _ J5 q5
        rw [pm, wm, am, xm] at a5
        refine thn a5 fun u6 s6 ⟨y, H6, J6, r6, m', hm, w6⟩ => ?_
        obtain ⟨e1, e2, e3, e4, e5⟩ := keepT J6
        refine append_at (hsz := by show its.toArray.size <= sizeLine; rw [List.size_toArray, <- v1.length]; exact Nat.le_of_lt hlen) e3 fun h7 sb7 d7 => ?_
        have J7 : Inv X' pins σ4 H6 { s6 with heap := h7 } := e5.turned (t' := s6.toks) (it := D) (fun b o hb e => sb7.extBut b o hb e) e4 (by rw [lm]; exact Nat.ne_of_lt hD0) (.inr (by rw [szm, hDD]; exact Nat.le_refl _)) (fun x d e => Nat.ne_of_lt (ageC x d e)) fun p hp => by
          rw [nm] at hp
          exact Nat.ne_of_lt (ageP p hp)
        refine ⟨m', hm, i + 1, ys ++ [y], σ4, H6, its ++ [u6], k + 1, J7, T.keep _ _ _ e1 fun b hb o e => sb7.extBut b o (Nat.ne_of_lt (by rw [<- hDD]; exact hlt b hb)) e, e2, ?_, e4, v1.append (.cons r6 .nil), w6⟩
        rw [d7, List.push_toArray]
  have env1 : ({ newEnv scope C X.env.globals (clOf X.env scope.names []) X.env.qual none .none (some X.env) 0 with scope := relabel scope X.env } : Env) = X'.env := by rw [em]; rfl
  have lp := loop _ rfl
  rw [em] at lp
  exact codeAny_compStart_list lp (T.self _ 0 _ _ _ st1 lp)
def tComp (wi : TI) (fr : List (Option Nat)) (g : TG) (tt : TT) (te : TE) : TE := fun σ H Q => wi σ H fun J H1 =>
  ∃ W, CompW J g tt te (fun ys H' => ∀ p, H' p = none -> Q (.ref p) (upd H' p (.lst ys))) W /\ ∃ m, W 0 m [] (stComp fr σ) H1
theorem pe_comp {wi : TI} (c : CompOk X scope N' fr) (hc : X.calm = true) (hi : PI X tg iter wi) (hg : ∀ fp C s H, PG (cxComp X scope N' fp C s H) tg g) (ht : ∀ fp C s H, PIfs (cxComp X scope N' fp C s H) ifs tt)
    (he : ∀ fp C s H, PE (cxComp X scope N' fp C s H) elt te) (hs : ∀ x, foldedSetIterable iter X.env x = pure x := by intro _; rfl) : PE X (.ListComp elt [⟨tg, iter, ifs, 0⟩] scope pos) (tComp wi fr g tt te) := by
  intro pins s σ H Q I h
  rw [eval_ListComp]
  refine wpAny_comprehension_free (use := none) rfl hs (closure_is (c.has I.ok)) c.kind c.names (thn (hi pins s σ H _ I h) fun v s1 h1 => thn h1 fun itv s2 h2 => ?_)
  obtain ⟨it, fp, tn, J, H2, e, I2, T, st2, f2, W, hW, h0⟩ := h2
  subst e
  refine comp_block c hc I2 T st2 f2 hg ht he hW h0 ?_
  rintro D C ys H' s' J3 ⟨m, hm⟩ ⟨f0, f1, _, f3, f4, f5⟩ nD fi
  exact ⟨m, hm, fun h'' sb => ⟨.ref D, _, J3.turned (t' := s'.toks) (it := C) (fun b o hb e => sb.extBut b o hb e) f0 f1 f3 f4 f5, rfl, fi D nD⟩⟩
def tSetComp (i : Nat) (wi : TI) (fr : List (Option Nat)) (g : TG) (tt : TT) (te : TE) : TS := fun D σ H => wi σ H fun J H1 =>
  ∃ W, CompW J g tt te (fun ys H' => ∀ p, H' p = none -> D.nx (σ.set i (some (.ref p))) (upd H' p (.lst ys))) W /\ ∃ m, W 0 m [] (stComp fr σ) H1
theorem ps_setComp {wi : TI} {i : Nat} {y : Str} {py spos : Pos} (hN : X.N.Nodup) (hi' : X.N[i]? = some y) (hy : Loc X.env.scope y) (c : CompOk X scope N' fr) (hc : X.calm = true) (hi : PI X tg iter wi) (hg : ∀ fp C s H, PG (cxComp X scope N' fp C s H) tg g) (ht : ∀ fp C s H, PIfs (cxComp X scope N' fp C s H) ifs tt)
    (he : ∀ fp C s H, PE (cxComp X scope N' fp C s H) elt te) (hs : ∀ x, foldedSetIterable iter X.env x = pure x := by intro _; rfl)
    (hsw : swapsWith (.ListComp elt [⟨tg, iter, ifs, 0⟩] scope pos) (some (.Name y py)) spos.line X.env = pure true := by rfl) (hf : X.fn y = true \/ X.env.scope.names.lookup y = some .local := by first | exact .inl rfl | exact .inr rfl | assumption) :
    PS X (.Assign [.Name y py] (.ListComp elt [⟨tg, iter, ifs, 0⟩] scope pos) spos) (tSetComp i wi fr g tt te) := by
  intro pins s σ H D I h
  rw [exec_Assign_Name_used _ _ _ _ hsw]
  refine wpAny_bind (wpAny_standAt (wpAny_bind ?_))
  show wpAny _ X.A (do let _ <- comprehension (.ListComp elt [⟨tg, iter, ifs, 0⟩] scope pos) scope X.env _ (newList []) false (eval iter X.env) (some (assign (.Name y py) X.env))) _ _ s
  refine wpAny_bind (thn (wpAny_comprehension_free (use := some (assign (.Name y py) X.env)) (Q := fun _ s' => SP X pins D .next s') rfl hs (closure_is (c.has I.ok)) c.kind c.names
    (thn (hi pins s σ H _ I h) fun v s1 h1 => thn h1 fun itv s2 h2 => ?_)) fun _ s' hq => wpAny_pure (wpAny_pure hq))
  obtain ⟨it, fp, tn, J, H2, e, I2, T, st2, f2, W, hW, h0⟩ := h2
  subst e
  refine comp_block c hc I2 T st2 f2 hg ht he hW h0 ?_
  rintro B C ys H' s' J3 ⟨m, hm⟩ ⟨f0, f1, _, f3, f4, f5⟩ nD fi
  show wpAny _ X.A (assign (.Name y py) X.env (.ref B)) _ _ s'
  refine wpAny_assign_Name (store_ok2 J3 hN hi' hy (show RelV (.ref B) (.ref B) from rfl) (fun s4 J4 ⟨a, sb, ha⟩ => ?_) hf)
  have nCa : C ≠ a := by
    rcases ha with z | z
    · rw [z]; exact f1
    · exact fun q => f4 y a z q.symm
  exact ⟨m, hm.sameBut sb nCa, fun h'' sb2 => ⟨_, _, J4.turned (t' := s4.toks) (it := C) (fun b o hb e => sb2.extBut b o hb e) f0 f1 f3 f4 f5, fi B nD⟩⟩
end
section
variable {X : Cx}
theorem call_isinst : CallR X (.builtin "isinstance") (fun xs H Q => ∃ x c t u b, xs = [x, c] /\ RelV c u /\ TyOf X.K H x t /\ PySem.W.kitOne X.K t u = some b /\ Q (.bl b) H) := by
  intro pins s σ H xs us Q I r h
  obtain ⟨x, c, t, u, b, rfl, rc, ty, e, q⟩ := h
  obtain ⟨u1, u2, rfl, r1, r2⟩ := Vals.two r
  have hu : u2 = u := by
    cases c <;> first
      | exact (show u2 = _ from r2).trans (show u = _ from rc).symm
      | skip
    all_goals (exfalso; obtain ⟨_, rfl⟩ := rc; unfold PySem.W.kitOne PySem.W.kitCls at e; split at e <;> first | (cases ty <;> simp_all) | (simp at e))
  subst hu
  exact isinst_ok I r1 ty e fun tk => ⟨.bl b, H, I.tok tk, rfl, q⟩
inductive SameD (K : PySem.W.Frag) (H : Hp) : Nat -> V -> V -> Prop
  | flat {n : Nat} {x : V} (f : flatV x = true) : SameD K H n x x
  | tup {n : Nat} {a b : Addr} {xs ys : List V} (ha : SqT K H a xs) (hb : SqT K H b ys) (hl : xs.length = ys.length) (h : ∀ (i : Nat) (x y : V), xs[i]? = some x -> ys[i]? = some y -> SameD K H n x y) : SameD K H (n + 1) (.ref a) (.ref b)
  | lst {n : Nat} {a b : Addr} {xs ys : List V} (ha : SqL K H a xs) (hb : SqL K H b ys) (hl : xs.length = ys.length) (h : ∀ (i : Nat) (x y : V), xs[i]? = some x -> ys[i]? = some y -> SameD K H n x y) : SameD K H (n + 1) (.ref a) (.ref b)
theorem eqV_self {x : V} (f : flatV x = true) : eqV x x = true := by
  cases x <;> first | (exact absurd (show false = true from f) Bool.false_ne_true) | rfl | (simp [eqV])
theorem range_all_true (n : Nat) (e : Nat -> Bool) (h : ∀ i, e i = true) : (List.range n).all e = true := by
  rw [List.all_eq_true]; intro i _; exact h i
theorem in1_units {A : Around} : A.in1.units <= A.units + 1 := by
  first
    | exact Nat.le_refl _
    | exact Nat.le_succ _
    | (simp [Around.in1])
theorem SameD.rc {pins : List (Addr × Obj)} {σ : St} {H : Hp} {s : Shared} (I : Inv X pins σ H s) {n : Nat} {x y : V} (h : SameD X.K H n x y) : ∀ (A : Around), A.units + n < cLine -> ∀ (u v : Value), RelV x u -> RelV y v -> SeqAt.EqAt A s u v true := by
  induction h with
  | flat f => intro A hu u v ru rv; have := eqAt_V (A := A) (s := s) ru rv f f; rw [eqV_self f] at this; exact this
  | @tup n a b xs ys ha hb hl _ ih =>
    intro A hu u v ru rv
    cases (show u = Value.ref a from ru)
    cases (show v = Value.ref b from rv)
    by_cases e : a = b
    · subst e; exact SeqAt.EqAt.same _
    · obtain ⟨its, r1, t1, _⟩ := I.tuple ha
      obtain ⟨its2, r2, t2, _⟩ := I.tuple hb
      have hz : its.toArray.size = its2.toArray.size := by simp [<- r1.length, <- r2.length, hl]
      refine SeqAt.EqAt.of_refs e ?_
      have q := SeqAt.RcAt.tuples (e := fun _ => true) (A := A) t1 t2 (by lia) (fun j h1 h2 => ?_)
      · rw [range_all_true _ _ (fun _ => rfl), hz] at q
        simpa using q
      · have l1 : j < xs.length := by have := r1.length; simp at h1; lia
        have l2 : j < ys.length := by lia
        obtain ⟨u1, e1, q1⟩ := r1.get (i := j) (x := xs[j]) (by simp [l1])
        obtain ⟨u2, e2, q2⟩ := r2.get (i := j) (x := ys[j]) (by simp [l2])
        have w1 : its.toArray[j] = u1 := by have := List.getElem?_eq_some_iff.mp e1; simpa using this.2
        have w2 : its2.toArray[j] = u2 := by have := List.getElem?_eq_some_iff.mp e2; simpa using this.2
        rw [w1, w2]
        exact ih j _ _ (by simp [l1]) (by simp [l2]) A.in1 (by have := @in1_units A; lia) _ _ q1 q2
  | @lst n a b xs ys ha hb hl _ ih =>
    intro A hu u v ru rv
    cases (show u = Value.ref a from ru)
    cases (show v = Value.ref b from rv)
    by_cases e : a = b
    · subst e; exact SeqAt.EqAt.same _
    · obtain ⟨its, r1, t1, _⟩ := I.list ha
      obtain ⟨its2, r2, t2, _⟩ := I.list hb
      have hz : its.toArray.size = its2.toArray.size := by simp [<- r1.length, <- r2.length, hl]
      refine SeqAt.EqAt.of_refs e ?_
      have q := SeqAt.RcAt.lists (e := fun _ => true) (A := A) t1.isList t2.isList hz (by lia) (fun j h1 h2 => ?_)
      · rw [range_all_true _ _ (fun _ => rfl)] at q
        exact q
      · have l1 : j < xs.length := by have := r1.length; simp at h1; lia
        have l2 : j < ys.length := by lia
        obtain ⟨u1, e1, q1⟩ := r1.get (i := j) (x := xs[j]) (by simp [l1])
        obtain ⟨u2, e2, q2⟩ := r2.get (i := j) (x := ys[j]) (by simp [l2])
        have w1 : its.toArray[j] = u1 := by have := List.getElem?_eq_some_iff.mp e1; simpa using this.2
        have w2 : its2.toArray[j] = u2 := by have := List.getElem?_eq_some_iff.mp e2; simpa using this.2
        rw [w1, w2]
        exact ih j _ _ (by simp [l1]) (by simp [l2]) A.in1 (by have := @in1_units A; lia) _ _ q1 q2
def rSame (K : PySem.W.Frag) (out : Bool) : R2 := fun x y H Q => ∃ a b xs ys n, x = .ref a /\ y = .ref b /\ ((SqT K H a xs /\ SqT K H b ys) \/ (SqL K H a xs /\ SqL K H b ys)) /\ xs.length = ys.length /\ n <= 64 /\
  (∀ (i : Nat) (x y : V), xs[i]? = some x -> ys[i]? = some y -> SameD K H n x y) /\ Q (.bl out) H
theorem same_items {pins : List (Addr × Obj)} {σ : St} {H : Hp} {s : Shared} (I : Inv X pins σ H s) {A : Around} {n : Nat} {xs ys : List V} {its its2 : List Value} (hu : A.units + n < cLine) (r1 : Vals xs its) (r2 : Vals ys its2) (hl : xs.length = ys.length)
    (h : ∀ (i : Nat) (x y : V), xs[i]? = some x -> ys[i]? = some y -> SameD X.K H n x y) : ∀ j (h1 : j < its.toArray.size) (h2 : j < its2.toArray.size), SeqAt.EqAt A s its.toArray[j] its2.toArray[j] true := by
  intro j h1 h2
  have l1 : j < xs.length := by have := r1.length; simp at h1; lia
  have l2 : j < ys.length := by lia
  obtain ⟨u1, e1, q1⟩ := r1.get (i := j) (x := xs[j]) (by simp [l1])
  obtain ⟨u2, e2, q2⟩ := r2.get (i := j) (x := ys[j]) (by simp [l2])
  have w1 : its.toArray[j] = u1 := by have := List.getElem?_eq_some_iff.mp e1; simpa using this.2
  have w2 : its2.toArray[j] = u2 := by have := List.getElem?_eq_some_iff.mp e2; simpa using this.2
  rw [w1, w2]
  exact (h j _ _ (by simp [l1]) (by simp [l2])).rc I A hu _ _ q1 q2
theorem op_eqS (hu : X.A.units + 66 < cLine) : OpR X (compareOp .Eq) (rSame X.K true) := by
  intro pins s σ H x y v u Q I rx ry h
  obtain ⟨a, b, xs, ys, n, rfl, rfl, hk, hl, hn, hs, q⟩ := h
  cases (show v = Value.ref a from rx)
  cases (show u = Value.ref b from ry)
  have hu1 : X.A.in1.units + n < cLine := by have := @in1_units X.A; lia
  rcases hk with ⟨ha, hb⟩ | ⟨ha, hb⟩
  · obtain ⟨its, r1, t1, _⟩ := I.tuple ha
    obtain ⟨its2, r2, t2, _⟩ := I.tuple hb
    have hz : its.toArray.size = its2.toArray.size := by simp [<- r1.length, <- r2.length, hl]
    refine SeqAt.eq_tupleAt (e := fun _ => true) t1 t2 (by lia) (same_items I hu1 r1 r2 hl hs) ?_
    rw [range_all_true _ _ (fun _ => rfl), hz]
    exact ⟨.bl true, H, I, by simp [RelV], q⟩
  · obtain ⟨its, r1, t1, _⟩ := I.list ha
    obtain ⟨its2, r2, t2, _⟩ := I.list hb
    have hz : its.toArray.size = its2.toArray.size := by simp [<- r1.length, <- r2.length, hl]
    refine SeqAt.eq_listAt (e := fun _ => true) t1.isList t2.isList hz (by lia) (same_items I hu1 r1 r2 hl hs) ?_
    rw [range_all_true _ _ (fun _ => rfl)]
    exact ⟨.bl true, H, I, rfl, q⟩
def rNil (K : PySem.W.Frag) (neg : Bool) : R2 := fun x y H Q => ∃ a b xs, x = .ref a /\ y = .ref b /\ SqL K H a xs /\ SqL K H b [] /\ Q (.bl (neg ^^ decide (xs = []))) H
theorem op_neNil (hu : X.A.units + 66 < cLine) : OpR X (compareOp .NotEq) (rNil X.K true) := by
  intro pins s σ H x y v u Q I rx ry h
  obtain ⟨a, b, xs, rfl, rfl, ha, hb, q⟩ := h
  cases (show v = Value.ref a from rx)
  cases (show u = Value.ref b from ry)
  obtain ⟨its, r1, t1, _⟩ := I.list ha
  obtain ⟨its2, r2, t2, _⟩ := I.list hb
  have z2 : its2 = [] := Vals.zero r2
  subst z2
  cases xs with
  | nil =>
    have z1 : its = [] := Vals.zero r1
    subst z1
    exact EqBoolInt.of_rcne (SeqAt.RcNeAt.lists (e := fun _ => true) t1.isList t2.isList rfl (by lia) (fun j h1 _ => absurd h1 (by simp))) ⟨.bl false, H, I, by simp [RelV], by simpa using q⟩
  | cons x xs =>
    have hl := r1.length
    exact EqBoolInt.of_rcne (SeqAt.RcNeAt.lists_lengths t1.isList t2.isList (by simp [<- hl]) (by lia)) ⟨.bl true, H, I, rfl, by simpa using q⟩
theorem kept_iter {h h' : Heap} {o : Obj} (hk : ∀ b u, b ∉ [h.objs.size] -> (h.push o).get? b = some u -> h'.get? b = some u) : ∀ b u, h.get? b = some u -> h'.get? b = some u := fun b u e =>
  hk b u (fun hm => absurd (Heap.lt_size e) (by rw [List.mem_singleton.mp hm]; exact Nat.lt_irrefl _)) (Heap.get?_push_of_some _ e)
theorem bools_at {bs : List Bool} {its : List Value} (r : Vals (bs.map V.bl) its) {i : Nat} {v : Value} (e : its.toArray[i]? = some v) : v = .bool (bs.getD i false) := by
  have e' : its[i]? = some v := by simpa using e
  have hl : i < its.length := (List.getElem?_eq_some_iff.mp e').1
  have hb : i < bs.length := by have := r.length; rw [List.length_map] at this; lia
  obtain ⟨u, e1, q⟩ := r.get (i := i) (x := V.bl bs[i]) (by simp [hb])
  rw [e1] at e'
  cases e'
  have e3 : v = Value.bool bs[i] := q
  rw [e3]
  simp [List.getD, hb]
theorem range_all_get (bs : List Bool) : (List.range bs.length).all (fun i => bs.getD i false) = bs.all id := by
  rw [Bool.eq_iff_iff, List.all_eq_true, List.all_eq_true]
  constructor
  · intro h x hx
    obtain ⟨i, hi, e⟩ := List.mem_iff_getElem.mp hx
    have := h i (List.mem_range.mpr hi)
    simp [List.getD, hi, e] at this
    exact this
  · intro h i hi
    have hi' := List.mem_range.mp hi
    have := h bs[i] (List.getElem_mem hi')
    simpa [List.getD, hi'] using this
theorem call_all (hc : X.calm = true) : CallR X (.builtin "all") (fun xs H Q => ∃ (p : Addr) (bs : List Bool), xs = [.ref p] /\ SqL X.K H p (bs.map V.bl) /\ Q (.bl (bs.all id)) H) := by
  intro pins s σ H xs us Q I r h
  obtain ⟨p, bs, rfl, hp, q⟩ := h
  obtain ⟨u, rfl, ru⟩ := Vals.one r
  cases (show u = Value.ref p from ru)
  obtain ⟨its, r1, t1, _⟩ := I.list hp
  have hh : X.A.in1.handled = none := I.ok.hd hc
  have hlt : p < s.heap.objs.size := by obtain ⟨_, e, _⟩ := t1.isList; exact Heap.lt_size e
  refine call_all_walk (wpAny_pyIter_list t1.isList ⟨_, _, _, _, _, _, fun i => bs.getD i false, rfl, Walks.list hh _ p (Nat.ne_of_lt hlt) its.toArray, ⟨⟨_, Heap.get?_push_size _ rfl, rfl, rfl⟩, t1.isList.push _⟩, ?_, ?_⟩)
  · intro i v s' Q' E' e hq
    rw [bools_at r1 e]
    exact wpAny_truthy_bool hq
  · intro h' tk hk
    have hl : its.toArray.size = bs.length := by have := r1.length; simp at this ⊢; lia
    rw [hl, range_all_get]
    exact ⟨.bl _, H, I.kept (kept_iter hk), rfl, q⟩
end
section
variable {X : Cx} {pins : List (Addr × Obj)} {σ : St} {H : Hp} {s : Shared}
theorem Inv.turnM {ch : List Addr} {t' : Nat} {h' : Heap} (I : Inv X pins σ H s) (hf : ∀ b ∈ ch, FpOk X pins H b) (k : ∀ b u, b ∉ ch -> s.heap.get? b = some u -> h'.get? b = some u) : Inv X pins σ H { s with heap := h', toks := t' } := by
  have nch : ∀ b u, H b = some u -> b ∉ ch := fun b u e z => by have := (hf b z).1; rw [this] at e; cases e
  refine I.step (g' := s.gens) (d' := s.drawn) (ch := ch) (fun b hb => ⟨(hf b hb).2.2.2.1, (hf b hb).2.1, (hf b hb).2.2.2.2.1, (hf b hb).2.2.2.2.2⟩) (fun b o _ _ hc e _ => k b o hc e) (fun b o _ _ hc e _ => ⟨o.slots, k b o hc e⟩) (fun _ _ _ _ n => n)
    (fun b o hc e => ⟨o, k b o hc e⟩) (fun _ _ e => e) (fun _ _ _ e => e) (fun b ps e => ⟨#[], by rw [e]; simp⟩) (fun m hm => ?_) (fun b u e => ?_) I.bare
  · obtain ⟨o, es, ep, ho, r⟩ := hm
    exact ⟨o, es, ep, k _ o (fun z => (hf _ z).2.1 rfl) ho, r⟩
  · refine (I.hok b u e).stay (fun c v hc q => k c v ?_ q) (fun _ q => q) fun _ _ q => q
    rcases hc with z | z
    · rw [z]; exact nch b u e
    · exact nch c _ z
theorem Inv.turnNew {ch : List Addr} {T : Addr} {o : HO} {t' : Nat} {h' : Heap} (I : Inv X pins σ H s) (hf : ∀ b ∈ ch, FpOk X pins H b) (k : ∀ b u, b ∉ ch -> s.heap.get? b = some u -> h'.get? b = some u) (hT : s.heap.objs.size <= T)
    (new : ObjOk X.prog X.w (upd H T o) h' T o) : Inv X pins σ (upd H T o) { s with heap := h', toks := t' } := by
  have nch : ∀ b u, H b = some u -> b ∉ ch := fun b u e z => by have := (hf b z).1; rw [this] at e; cases e
  have nT : H T = none := I.hok.fresh hT
  have neT : ∀ b u, s.heap.get? b = some u -> b ≠ T := fun b u e => Nat.ne_of_lt (Nat.lt_of_lt_of_le (Heap.lt_size e) hT)
  refine I.step (g' := s.gens) (d' := s.drawn) (ch := ch) (fun b hb => ⟨(hf b hb).2.2.2.1, (hf b hb).2.1, (hf b hb).2.2.2.2.1, (hf b hb).2.2.2.2.2⟩) (fun b o _ _ hc e _ => k b o hc e) (fun b o _ _ hc e _ => ⟨o.slots, k b o hc e⟩) (fun b u _ e n => by rw [upd_ne (neT b u e)]; exact n)
    (fun b o hc e => ⟨o, k b o hc e⟩) (fun b xs e => by rw [upd_ne (ne_of_none e nT)]; exact e) (fun b o u e => by rw [upd_ne (ne_of_none e nT)]; exact e) (fun b ps e => ⟨#[], by rw [upd_ne (ne_of_none e nT), e]; simp⟩) (fun m hm => ?_) (fun b u e => ?_) I.bare
  · obtain ⟨o, es, ep, ho, r⟩ := hm
    exact ⟨o, es, ep, k _ o (fun z => (hf _ z).2.1 rfl) ho, r⟩
  · by_cases hb : b = T
    · subst hb
      rw [upd_same] at e
      cases e
      exact new
    · rw [upd_ne hb] at e
      refine (I.hok b u e).stay (fun c v hc q => k c v ?_ q) (fun c r => by rw [upd_ne (ne_of_none r nT)]; exact r) fun c xs r => by rw [upd_ne (ne_of_none r nT)]; exact r
      rcases hc with z | z
      · rw [z]; exact nch b u e
      · exact nch c _ z
end
inductive Kd | l | t
def ItAt (k : Kd) (h : Heap) (it a : Addr) (i : Nat) : Prop := match k with | .l => h.IsListIter it a i | .t => h.IsTupleIter it a i
def SqK (k : Kd) (K : PySem.W.Frag) (H : Hp) (a : Addr) (xs : List V) : Prop := match k with | .l => SqL K H a xs | .t => SqT K H a xs
section
variable {prog : Program} {w : World} {A : Around} {E : Value -> Shared -> Prop} {s : Shared}
end
open AutoSeq1 (wpAny_loadPart')
section
variable {prog : Program} {w : World} {A : Around} {E : Value -> Shared -> Prop} {s : Shared}
end
open AutoSeq1 (wpAny_loadPart')
section
variable {prog : Program} {w : World} {A : Around} {E : Value -> Shared -> Prop} {s : Shared}
end
structure Src (K : PySem.W.Frag) (mg : Str -> Option Value) (x : Str) (st : Stmt) (ps : List Str) : Prop where
  ex : ∃ f fd, Fun K x x st f fd /\ Binds K fd ps [] /\ mg x = some (.ref f)
structure Def (P : Program) (w : World) (K : PySem.W.Frag) (mg : Str -> Option Value) (base : Heap) (k : Nat) (x : Str) (ps : List Str) (sp : Sp) : Prop where
  ex : ∃ f fd, FnOk P w K mg base CX0 k f fd ps sp /\ Binds K fd ps [] /\ mg x = some (.ref f) /\ PySem.W.keepIn K (.ref f) = true
theorem Src.def {P : Program} {w : World} {K : PySem.W.Frag} {mg : Str -> Option Value} {base : Heap} {k : Nat} {x : Str} {st : Stmt} {N ps : List Str} {sp : Sp} (S : Src K mg x st ps) (sc : FnScope N ps (defScope st)) (len : ∀ vs H Q E, sp vs H Q E -> vs.length = ps.length)
    (hbody : ∀ (f : Addr) (cdv : Value) (A : Around) (outer : List Env) (s : Shared) (H : Hp) (vs : List V) (Q : VK) (E : XK), Room k (A.deeper (envOfC x (defScope st) s.heap.objs.size f cdv)) -> sp vs H Q E ->
      ∃ t, PSs (cxOf CX0 P w K mg base N x (defScope st) f cdv A outer s H E).nox (defBody st) t /\ t { nx := fun _ H' => Q .non H', rt := Q } (start N vs) H) : Def P w K mg base (k + 1) x ps sp := by
  obtain ⟨f, fd, F, b, m⟩ := S.ex
  exact ⟨f, fd, F.ok sc len (hbody f), b, m, F.kp⟩
theorem pe_def {X : Cx} {k : Nat} {x : Str} {ps : List Str} {sp : Sp} {e : Expr} {es : List Expr} {t : TA} {p pos : Pos} (D : Def X.prog X.w X.K X.mg X.base k x ps sp) (hr : Room k X.A) (hg : Gl X x) (ha : PA X (e :: es) t)
    (hdb : (x == ("__debug__" : Str)) = false := by decide) (he : starEach (e :: es) X.env = (false, eval e X.env) :: starEach es X.env := by rfl) (hpl : (backTo pos (starEach es X.env)).any (·.1) = false := by rfl) :
    PE X (.Call (.Name x p) (e :: es) [] pos) (tCall sp [] E0 t) := by
  obtain ⟨f, fd, F, b, m, kp⟩ := D.ex
  exact pe_call F hr hg m kp b .nil pass0 ha hdb he hpl
theorem Same.tup {K : PySem.W.Frag} {H H' : Hp} {a : Addr} {xs : List V} (e : Same H H') (h : SqT K H a xs) : SqT K H' a xs := by
  rcases h with (h | ⟨o, h⟩) | h
  · exact .inl (.inl (e _ _ h))
  · exact .inl (.inr ⟨o, e _ _ h⟩)
  · exact .inr h
theorem Same.seqK {K : PySem.W.Frag} {H H' : Hp} {k : Kd} {a : Addr} {xs : List V} (e : Same H H') (h : SqK k K H a xs) : SqK k K H' a xs := by
  cases k with
  | l => exact e.seq h
  | t => exact e.tup h
theorem Same.new {H : Hp} {p : Addr} {o : HO} (h : H p = none) : Same H (upd H p o) := fun b u e => by rw [upd_ne (ne_of_none e h)]; exact e
theorem Paired.at {α β : Type} {F : α -> β -> Prop} : ∀ {l₁ : List α} {l₂ : List β}, Paired F l₁ l₂ -> ∀ {i : Nat} {a : α}, l₁[i]? = some a -> ∃ b, l₂[i]? = some b /\ F a b
  | _, _, .nil, i, a, e => by simp at e
  | _, _, .cons r t, 0, a, e => by simp at e; subst e; exact ⟨_, rfl, r⟩
  | _, _, .cons r t, i + 1, a, e => by
    obtain ⟨b, h1, h2⟩ := Paired.at t (i := i) (by simpa using e)
    exact ⟨b, by simpa using h1, h2⟩
theorem Paired.snoc {α β : Type} {F : α -> β -> Prop} : ∀ {l₁ : List α} {l₂ : List β}, Paired F l₁ l₂ -> ∀ {a : α} {b : β}, F a b -> Paired F (l₁ ++ [a]) (l₂ ++ [b])
  | _, _, .nil, _, _, h => .cons h .nil
  | _, _, .cons r t, _, _, h => .cons r (Paired.snoc t h)
theorem take_succ_of {α : Type} {l : List α} {i : Nat} {a : α} (h : l[i]? = some a) : l.take (i + 1) = l.take i ++ [a] := by
  rw [List.take_add_one, h]; rfl
def ItK (k : Kd) (K : PySem.W.Frag) (a : Addr) : It := match k with | .l => Itl K a | .t => Itt K a
def iSeq (k : Kd) (K : PySem.W.Frag) (tl : TE) : TI := fun σ H R => tl σ H fun x H1 => ∃ a, x = .ref a /\ (∃ xs, SqK k K H1 a xs) /\ R (ItK k K a) H1
theorem pi_seq {X : Cx} {tg : Expr} (k : Kd) {l : Expr} {tl : TE} (hl : PE X l tl) : PI X tg l (iSeq k X.K tl) := by
  cases k with
  | l => exact pi_list hl
  | t => exact pi_tup hl
theorem itk_go {k : Kd} {K : PySem.W.Frag} {H : Hp} {a : Addr} {xs : List V} {i : Nat} (h : SqK k K H a xs) (hi : i < xs.length) : (ItK k K a).go i H := by
  cases k with
  | l => exact ⟨xs, xs[i], h, by simp [hi]⟩
  | t => exact ⟨xs, xs[i], h, by simp [hi]⟩
theorem itk_stop {k : Kd} {K : PySem.W.Frag} {H : Hp} {a : Addr} {xs : List V} {i : Nat} (h : SqK k K H a xs) (hi : xs.length <= i) : (ItK k K a).stop i H := by
  cases k with
  | l => exact ⟨xs, h, hi⟩
  | t => exact ⟨xs, h, hi⟩
theorem itk_yld {k : Kd} {K : PySem.W.Frag} {H H' : Hp} {a : Addr} {xs : List V} {i : Nat} {x : V} (h : SqK k K H a xs) (y : (ItK k K a).yld i H x H') : H' = H /\ xs[i]? = some x := by
  cases k with
  | l => exact ⟨y.1, y.2 xs h⟩
  | t => exact ⟨y.1, y.2 xs h⟩
theorem comp_seq {k : Kd} {K : PySem.W.Frag} {a : Addr} {xs : List V} {g : TG} {tt : TT} {te : TE} {fin : List V -> Hp -> Prop} {σ : St} {H : Hp} (S : St -> Prop) (Pv : Nat -> List V -> Hp -> Prop) (hσ : S σ) (h0 : Pv 0 [] H) (hz : xs.length < sizeLine)
    (hl : ∀ i ys H, i <= xs.length -> Pv i ys H -> SqK k K H a xs)
    (hs : ∀ (i : Nat) (x : V) (ys : List V) (σ : St) (H : Hp) (N : List V -> St -> Hp -> Prop), xs[i]? = some x -> S σ -> Pv i ys H -> (∀ ys' σ' H', S σ' -> Pv (i + 1) ys' H' -> ys'.length <= ys.length + 1 -> N ys' σ' H') ->
      g x σ H fun σ2 H2 => tt σ2 H2 fun b H3 => if b = true then te σ2 H3 fun y H4 => N (ys ++ [y]) σ2 H4 else N ys σ2 H3)
    (hd : ∀ ys H, Pv xs.length ys H -> fin ys H) : ∃ W, CompW (ItK k K a) g tt te fin W /\ ∃ m, W 0 m [] σ H := by
  refine ⟨fun i m ys σ H => m = xs.length - i /\ i <= xs.length /\ ys.length <= i /\ S σ /\ Pv i ys H, ?_, xs.length, by simp, Nat.zero_le _, Nat.le_refl _, hσ, h0⟩
  rintro i m ys σ H ⟨rfl, hi, hy, hS, p⟩
  have q := hl i ys H hi p
  by_cases hlt : i < xs.length
  · refine .inr ⟨itk_go q hlt, by lia, fun x H' y => ?_⟩
    obtain ⟨e, hy2⟩ := itk_yld q y
    subst e
    have := hs i x ys σ H' (fun ys' σ' H'' => ∃ m', m' < xs.length - i /\ m' = xs.length - (i + 1) /\ i + 1 <= xs.length /\ ys'.length <= i + 1 /\ S σ' /\ Pv (i + 1) ys' H'') hy2 hS p (fun ys' σ' H'' a b c => ⟨_, by lia, rfl, hlt, by lia, a, b⟩)
    exact this
  · have e : i = xs.length := by lia
    subst e
    exact .inl ⟨itk_stop q (Nat.le_refl _), by lia, hd ys H p⟩
theorem units66 {A : Around} {k : Nat} (hr : Room k A) : A.units + 66 < cLine := by have := hr.un; lia
def compB (kinds : List (Str × NameKind)) (N : List Str) (scope : Scope) (N' : List Str) (fr : List (Option Nat)) : Bool :=
  (scope.kind == .function) && (scope.names.all fun y => y.2 != .cell) && (scope.names.all fun y => y.2 != .local || scope.names.lookup y.1 == some .local) &&
  (scope.names.all fun y => y.2 != .free || (kinds.lookup y.1 == some .cell || kinds.lookup y.1 == some .free)) && frOk N kinds scope.names N' fr
theorem compOk_of {X : Cx} {scope : Scope} {N' : List Str} {fr : List (Option Nat)} (h : compB X.env.scope.names X.N scope N' fr = true) : CompOk X scope N' fr := by
  unfold compB at h
  simp only [Bool.and_eq_true, List.all_eq_true] at h
  obtain ⟨⟨⟨⟨h1, h2⟩, h3⟩, h4⟩, h5⟩ := h
  refine ⟨by simpa using h1, fun y hy => by simpa using h2 y hy, fun y hy e => ?_, fun y hy e => ?_, h5⟩
  · have := h3 y hy
    rw [e] at this
    simpa using this
  · have := h4 y hy
    rw [e] at this
    simpa [Env.kindOf] using this
theorem yesT {σ : St} {H : Hp} {A B : Hp -> Prop} (h : A H) : tYes σ H fun b H3 => if b = true then A H3 else B H3 := by
  show if true = true then A H else B H
  exact iteT h
section
open PySem.SeqAt
open PySem.AutoSeq1 (wpAny_loadPart')
open PySem.MeetsSeq PySem.MeetsSeq2 PySem.MeetsSeq3
end
section
variable {X : Cx}
def rCat0 (K : PySem.W.Frag) : R2 := fun x y H Q => ∃ a b ys, x = .ref a /\ y = .ref b /\ SqT K H a [] /\ SqT K H b ys /\ Q (.ref b) H
theorem op_cat0 : OpR X (binaryOp .Add) (rCat0 X.K) := by
  intro pins s σ H x y v u Q I rx ry h
  obtain ⟨a, b, ys, rfl, rfl, ha, hb, k⟩ := h
  cases (show v = Value.ref a from rx)
  cases (show u = Value.ref b from ry)
  obtain ⟨its, r1, t1, _⟩ := I.tuple ha
  obtain ⟨its2, r2, t2, _⟩ := I.tuple hb
  rw [Vals.zero r1] at t1
  obtain ⟨⟨cls, dd, data, sl⟩, ho, hc, n, hd⟩ := id t1
  obtain ⟨⟨cls2, dd2, data2, sl2⟩, ho2, hc2, n2, hd2⟩ := id t2
  simp only at hc hd hc2 hd2
  subst hc hd hc2 hd2
  exact concat_meets ⟨_, ho, rfl⟩ ⟨_, ho2, rfl⟩ noFill_tuple_add seq_tuple_add PySem.F.slot_tuple_add PySem.F.entry_tuple_add (PySem.F.args_tuple_add_2 _ _) (tuple_addW0 a b _ its2.toArray n n2 dd dd2 sl sl2 (by simp)) ⟨ho, ho2, ⟨.ref b, H, I, rfl, k⟩⟩
end
theorem comp_range {lo : Int} {n : Nat} {g : TG} {tt : TT} {te : TE} {fin : List V -> Hp -> Prop} {σ : St} {H : Hp} (S : St -> Prop) (Pv : Nat -> List V -> Hp -> Prop) (hσ : S σ) (h0 : Pv 0 [] H) (hz : n < sizeLine)
    (hs : ∀ (i : Nat) (ys : List V) (σ : St) (H : Hp) (N : List V -> St -> Hp -> Prop), i < n -> S σ -> Pv i ys H -> (∀ ys' σ' H', S σ' -> Pv (i + 1) ys' H' -> ys'.length <= ys.length + 1 -> N ys' σ' H') ->
      g (.int (lo + i)) σ H fun σ2 H2 => tt σ2 H2 fun b H3 => if b = true then te σ2 H3 fun y H4 => N (ys ++ [y]) σ2 H4 else N ys σ2 H3)
    (hd : ∀ ys H, Pv n ys H -> fin ys H) : ∃ W, CompW (Itr lo n) g tt te fin W /\ ∃ m, W 0 m [] σ H := by
  refine ⟨fun i m ys σ H => m = n - i /\ i <= n /\ ys.length <= i /\ S σ /\ Pv i ys H, ?_, n, by simp, Nat.zero_le _, Nat.le_refl _, hσ, h0⟩
  rintro i m ys σ H ⟨rfl, hi, hy, hS, p⟩
  by_cases hlt : i < n
  · refine .inr ⟨hlt, by omega, fun x H' y => ?_⟩
    obtain ⟨e, y⟩ := y
    subst e y
    exact hs i ys σ _ (fun ys' σ' H'' => ∃ m', m' < n - i /\ m' = n - (i + 1) /\ i + 1 <= n /\ ys'.length <= i + 1 /\ S σ' /\ Pv (i + 1) ys' H'') hlt hS p (fun ys' σ' H'' a b c => ⟨_, by omega, rfl, hlt, by omega, a, b⟩)
  · have e : i = n := by omega
    subst e
    exact .inl ⟨Nat.le_refl _, by omega, hd ys H p⟩
section
variable {X : Cx}
end
theorem ObjOk.there {P : Program} {w : World} {H : Hp} {h : Heap} {a : Addr} {o : HO} (x : ObjOk P w H h a o) : ∃ u, h.get? a = some u := by
  cases o with
  | lst xs => obtain ⟨_, _, _, _, e⟩ := x; exact ⟨_, e⟩
  | tup xs => obtain ⟨_, _, _, _, e, _⟩ := x; exact ⟨_, e⟩
  | dK kvs => obtain ⟨_, _, _, _, o, _, _, e, _⟩ := x; exact ⟨_, e⟩
  | dT kvs => obtain ⟨_, _, _, _, o, _, _, e, _⟩ := x; exact ⟨_, e⟩
  | set S n => obtain ⟨o, _, _, _, e, _⟩ := x; exact ⟨_, e⟩
  | ins C dx fs => obtain ⟨_, _, _, e, _⟩ := x; exact ⟨_, e⟩
  | own y => exact x
  | xd fs => obtain ⟨_, ⟨_, _, _, e, _⟩, _⟩ := x; exact ⟨_, e⟩
  | rng lo hi => obtain ⟨_, _, _, e⟩ := x; exact ⟨_, e⟩
  | frz ob u => exact ⟨_, x.1⟩
  | tbl ps => exact ⟨_, show h.get? a = some { cls := .none, data := .fields ps } from x⟩
  | met f y => exact ⟨_, show h.get? a = some (PySem.W.methodObj (.ref f) (.ref y)) from x⟩
  | ext φ => exact x.2.1
theorem HOk.stays {P : Program} {w : World} {H : Hp} {h h' : Heap} (x : HOk P w H h) (k : ∀ b u v, H b = some v -> h.get? b = some u -> h'.get? b = some u) : HOk P w H h' := fun a o e => by
  refine (x a o e).stay (fun b u hb q => ?_) (fun _ q => q) fun _ _ q => q
  rcases hb with rfl | hb
  · exact k _ u _ e q
  · exact k b u _ hb q
def CXr (P : Program) (w : World) : CXT := fun outer H s E e s' => ∃ (ea C : Addr) (a0 : Value) (B : Heap) (H' : Hp), e = .ref ea /\ s'.os = s.os /\ AllBare s'.gens /\ Un (frs outer) [] H H' s.heap s'.heap /\ HOk P w H' s'.heap /\
  Heap.FlyingW B outer ea (.ref C) a0 s'.heap /\ (∀ b o, s'.heap.get? b = some o -> ((∃ q, s.heap.get? b = some q) \/ ∃ q, H' b = some q) -> b ∉ frs outer -> B.get? b = some o) /\ E (.ref C) none H'
section
variable {P : Program} {w : World} {K : PySem.W.Frag} {mg : Str -> Option Value} {base : Heap} {N : List Str} {qual : Str} {scope : Scope} {f : Addr} {cd : Value} {A : Around} {outer : List Env} {s0 : Shared} {H0 : Hp} {E : XK}
theorem frames_nf {h : Heap} {B : Heap} {l : List Env} (F : h.FunFrames B l) {b : Addr} {o : Obj} (hb : b ∈ frs l) (e : h.get? b = some o) : ∀ vs, o.data ≠ .fields vs := by
  obtain ⟨_, o', h1, h2⟩ := F.mem hb
  rw [e] at h1
  cases h1
  exact h2
theorem leave_raise {pins : List (Addr × Obj)} {σ : St} {H : Hp} {s2 : Shared} {h' : Heap} {e C : Addr} {vs : List Value} {E2 : Value -> Shared -> Prop} (I : Inv (cxOf (CXr P w) P w K mg base N qual scope f cd A outer s0 H0 E) pins σ H s2)
    (hx : Heap.MadeExcOf s2.heap h' e (.ref C) vs) (q : E (.ref C) none H) :
    wpAny (model P w) (A.deeper (envOfC qual scope s0.heap.objs.size f cd)) (leaving (envOfC qual scope s0.heap.objs.size f cd) (.ref e)) (fun _ s'' => CXr P w outer H0 s0 E (.ref e) s'') E2 { s2 with heap := h' } := by
  have hin : ∀ env ∈ (envOfC qual scope s0.heap.objs.size f cd :: outer), ∀ b, env.frame = some b -> b ∈ frs (envOfC qual scope s0.heap.objs.size f cd :: outer) := fun env he b hb => List.mem_filterMap.mpr ⟨env, he, hb⟩
  have St : s2.heap.FunFrames base (envOfC qual scope s0.heap.objs.size f cd :: outer) := I.stack
  have hfr : (A.deeper (envOfC qual scope s0.heap.objs.size f cd)).frames = some (envOfC qual scope s0.heap.objs.size f cd :: outer) := I.ok.frames
  refine wpAny_leaves_madeW (s := { s2 with heap := h' }) (base := PySem.W.hideAll s2.heap (frs (envOfC qual scope s0.heap.objs.size f cd :: outer))) hfr rfl (fun b o z => PySem.W.of_hideAll _ z) (PySem.W.funFrames_hide St hin) hx fun h'' t x1 _ _ x4 => ?_
  have up : s2.heap.UpToSlots h'' := (Heap.UpToSlots.of_keeps hx.keeps).trans x4
  have fsub : ∀ b, b ∈ frs (envOfC qual scope s0.heap.objs.size f cd :: outer) -> b = s0.heap.objs.size \/ b ∈ frs outer := fun b hb => by
    have e : frs (envOfC qual scope s0.heap.objs.size f cd :: outer) = s0.heap.objs.size :: frs outer := rfl
    rw [e] at hb
    exact List.mem_cons.mp hb
  have kept : ∀ b o, b ≠ s0.heap.objs.size -> b ∉ frs outer -> s2.heap.get? b = some o -> (PySem.W.hideAll s2.heap (frs (envOfC qual scope s0.heap.objs.size f cd :: outer))).get? b = some o := fun b o n1 n2 z =>
    PySem.W.hideAll_get _ z fun hm => (fsub b hm).elim n1 n2
  have slot : ∀ b o, b ∈ frs outer -> s2.heap.get? b = some o -> ∃ sl, h''.get? b = some { o with slots := sl } := fun b o hb z => up b o z (frames_nf I.funs hb z)
  have B : Un (frs outer) [] H0 H s0.heap s2.heap := I.base
  have ne0 : ∀ b o, s0.heap.get? b = some o -> b ≠ s0.heap.objs.size := fun b o z => Nat.ne_of_lt (Heap.lt_size z)
  have freeL : H s0.heap.objs.size = none := I.free
  have trk : ∀ b u v, H b = some v -> s2.heap.get? b = some u -> (PySem.W.hideAll s2.heap (frs (envOfC qual scope s0.heap.objs.size f cd :: outer))).get? b = some u := fun b u v hv z => by
    refine PySem.W.hideAll_get _ z fun hm => ?_
    have := I.stkFree b hm
    rw [hv] at this
    cases this
  refine ⟨e, C, _, _, H, rfl, I.os, I.bare, ⟨fun b o z n hb hx' => ?_, fun b o z n hb hx' => ?_, B.free, fun b o z hx' => ?_, B.tups, B.frzs, B.tbls⟩, ?_, x1, fun b o z hh hb => ?_, q⟩
  · exact x1.1 b o (kept b o (ne0 b o z) hb (B.keep b o z n hb hx'))
  · obtain ⟨sl, z2⟩ := B.slot b o z n hb hx'
    obtain ⟨sl', z3⟩ := slot b _ hb z2
    exact ⟨sl', z3⟩
  · obtain ⟨o', z2⟩ := B.there b o z hx'
    by_cases hb : b ∈ frs outer
    · obtain ⟨sl', z3⟩ := slot b _ hb z2
      exact ⟨_, z3⟩
    · exact ⟨_, x1.1 b o' (kept b o' (ne0 b o z) hb z2)⟩
  · exact I.hok.stays fun b u v hv z => x1.1 b u (trk b u v hv z)
  · have : ∃ u, (PySem.W.hideAll s2.heap (frs (envOfC qual scope s0.heap.objs.size f cd :: outer))).get? b = some u := by
      rcases hh with ⟨q1, z1⟩ | ⟨q1, z1⟩
      · obtain ⟨o', z2⟩ := B.there b q1 z1 (by simp)
        exact ⟨o', kept b o' (ne0 b q1 z1) hb z2⟩
      · obtain ⟨u, z2⟩ := (I.hok b q1 z1).there
        exact ⟨u, trk b u _ z1 z2⟩
    obtain ⟨u, hu⟩ := this
    have := x1.1 b u hu
    rw [z] at this
    cases this
    exact hu
end
abbrev bmVE : List Value := [.type "ValueError", .type "Exception", .type "BaseException", .type "object"]
structure ExcAt (h : Heap) (C : Addr) (bm : List Value) : Prop where
  ex : ∃ (N : Addr) (nm qn : Str) (bs : List Value) (hd : Bool) (sn : List Str) (sub : List Value) (ab : Bool) (col : Option Bool) (dd : Option Addr) (k0 k1 k2 k3 k5 : Option Value) (mN : Str -> Option Value),
    h.get? C = some (excClassObj nm qn C N bs bm hd sn sub ab col dd k0 k1 k2 k3 k5 "ValueError.__new__") /\ h.Ns N mN /\ mN "__init__" = none /\ OwnTail h bmVE bm
def excB (K : PySem.W.Frag) (C : Addr) (bm : List Value) : Bool := PySem.W.excIn K C bmVE "ValueError.__new__" && (match K.lookup C with | some o => (match o.data with | .cls cd => cd.mro == .ref C :: bm | _ => false) | _ => false)
theorem excAt_of {K : PySem.W.Frag} {h : Heap} {C : Addr} {bm : List Value} (X : K.In h) (z : excB K C bm = true) : ExcAt h C bm := by
  unfold excB at z
  rw [Bool.and_eq_true] at z
  obtain ⟨z1, z2⟩ := z
  unfold PySem.W.excIn at z1
  split at z1
  next dd cd sl lk =>
    rw [lk] at z2
    split at z1
    next C2 bm2 k0 k1 k2 k3 n k5 hm hs =>
      simp only [Bool.and_eq_true, beq_iff_eq, Bool.not_eq_true'] at z1
      obtain ⟨⟨⟨⟨⟨y1, y2⟩, y3⟩, y4⟩, y5⟩, y6⟩ := z1
      subst y1 y2
      have z3 : (cd.mro == .ref C2 :: bm) = true := z2
      rw [beq_iff_eq, hm] at z3
      cases z3
      cases cd with
      | mk nm bs mro ns qn hd sn sub ab col del =>
        have e1 : mro = .ref C2 :: bm := hm
        have e2 : del = false := y3
        subst e1 e2
        have e3 : sl = #[k0, k1, k2, k3, some (.builtin "ValueError.__new__"), k5] := by
          cases sl with
          | mk l => exact congrArg Array.mk hs
        subst e3
        exact ⟨ns, nm, qn, bs, hd, sn, sub, ab, col, dd, k0, k1, k2, k3, k5, _, X _ _ lk, .of_isNs (PySem.W.isNs_of_in X y5), PySem.W.nsMap_none_of_in X y5 y6, PySem.W.tail_of_in X y4⟩
    next => cases z1
  next => cases z1
section
variable {P : Program} {w : World} {K : PySem.W.Frag} {mg : Str -> Option Value} {base : Heap} {N : List Str} {qual : Str} {scope : Scope} {f : Addr} {cd : Value} {A : Around} {outer : List Env} {s0 : Shared} {H0 : Hp} {E : XK}
theorem bmVE_base : bmVE.contains (.type "BaseException") = true := by decide +kernel
theorem bmVE_value : bmVE.contains (.type "ValueError") = true := by decide +kernel
def tRaise (C : Addr) (E : XK) (ta : TA) : TS := fun _ σ H => ta σ H fun vs H1 => vs.length <= 100 /\ E (.ref C) none H1
end
end L2
namespace L2
open PySem PySem.Spec PyProof.Rows PySem.W
def excKB (K : Frag) (C : Addr) : Bool :=
  findIn K (.ref C) "__getattribute__" == some (some (.builtin "BaseException.__getattribute__")) && findIn K (.ref C) "__getattr__" == some none && findIn K (.ref C) "__class__" == some (some (.builtin "object.__class__"))
    && subIn K (.ref C) (.type "BaseException") == some true && subIn K (.ref C) (.type "object") == some true && (clsIn K C).isSome
structure ExcK (K : Frag) (C : Addr) : Prop where
  g1 : findIn K (.ref C) "__getattribute__" = some (some (.builtin "BaseException.__getattribute__"))
  g2 : findIn K (.ref C) "__getattr__" = some none
  g3 : findIn K (.ref C) "__class__" = some (some (.builtin "object.__class__"))
  g4 : subIn K (.ref C) (.type "BaseException") = some true
  g5 : subIn K (.ref C) (.type "object") = some true
  g6 : (clsIn K C).isSome = true
theorem excK_of {K : Frag} {C : Addr} (h : excKB K C = true) : ExcK K C := by
  unfold excKB at h
  simp only [Bool.and_eq_true, beq_iff_eq] at h
  obtain ⟨⟨⟨⟨⟨h1, h2⟩, h3⟩, h4⟩, h5⟩, h6⟩ := h
  exact ⟨h1, h2, h3, h4, h5, h6⟩
section
variable {K : Frag} {prog : Program} {w : World} {A : Around} {E : Value -> Shared -> Prop} {h : Heap} {g : Array GenState} {d : Drawn} {t : Nat} {os : OsState} {a C : Addr} {o : Obj}
theorem xc_get {R : Result -> Shared -> Prop} (Z : ExcK K C) (X : K.In h) (hx : h.get? a = some o) (hc : o.cls = .ref C) (hq : R (.ok (.ret (.ref C))) ⟨h, g, d, t, os⟩) :
    codeAny (model prog w) A (.call (.builtin "getset_descriptor.__get__") ⟨[.builtin "object.__class__", .ref a, .ref C], []⟩) R ⟨h, g, d, t, os⟩ := by
  have hT5 : (⟨h, g, d, t, os⟩ : Shared).TypeIs (.builtin "object.__class__") "getset_descriptor" := F.typeOf_object_class
  have hs : Looks (model prog w) h (isSubtype (.ref C) (.type (".".intercalate ("object.__class__".cutAt '.').dropLast))) true := by rw [F.owner_object_class]; exact looks_subIn X Z.g5
  refine codeAny_call_builtin F.slot_gs_get.plain F.entry_gs_get (F.slot_gs_get.check _ _ _ _ _ _ _ _ hT5 (F.args_gs_get _ _ _) ?_)
  repeat (any_goals (first | assumption | (with_reducible refine wpAny_loadPart_at hx ?_; rw [hc]) | with_reducible refine Looks.at hs ?_ | wp_step))
  refine ⟨Code.quiet_builtin _ (by decide +kernel), codeAny_builtin F.entry_object_class ?_⟩
  repeat (any_goals (first | assumption | (with_reducible refine wpAny_loadPart_at hx ?_; rw [hc]) | wp_step))
theorem xc_entry {tk : Tok} {Q : Fin -> Shared -> Prop} (Z : ExcK K C) (X : K.In h) (hx : h.get? a = some o) (hc : o.cls = .ref C) (hq : Q (.done (.ret (.ref C))) ⟨h, g, d, t, os⟩) :
    wpAny (model prog w) A (Builtin.«object.__getattribute__» ⟨[.ref a, .str "__class__" tk], []⟩) Q E ⟨h, g, d, t, os⟩ := by
  have hT5 : (⟨h, g, d, t, os⟩ : Shared).TypeIs (.builtin "object.__class__") "getset_descriptor" := F.typeOf_object_class
  have f5 := F.typeOf_object_class
  have f6 := F.slot_gs_get.lookup
  have f7 := F.slot_gs_set.lookup
  have l3 : Looks (model prog w) h (typeLookup (.ref C) "__class__") _ := looks_findIn X Z.g3
  repeat (any_goals (first | assumption | (with_reducible refine wpAny_loadPart_at hx ?_; rw [hc]) | with_reducible refine Looks.at l3 ?_ | wp_step))
  refine xc_get Z X hx hc ?_
  repeat (any_goals (first | assumption | wp_step))
theorem xc_check {M : Model} {nameV : Value} {Q : Unit -> Shared -> Prop} (Z : ExcK K C) (X : K.In h) (hx : h.get? a = some o) (hc : o.cls = .ref C) (hq : Q () ⟨h, g, d, t, os⟩) : wpAny M A (checkBuiltinCall "BaseException.__getattribute__" ⟨[.ref a, nameV], []⟩) Q E ⟨h, g, d, t, os⟩ := by
  have hk : builtinKind "BaseException.__getattribute__" = some .slot := by decide +kernel
  have hsplit : splitId "BaseException.__getattribute__" = some ("BaseException", "__getattribute__") := by decide +kernel
  have ha := F.args_bexc_ga (.ref a) nameV
  have hs : Looks M h (isSubtype (.ref C) (.type "BaseException")) true := looks_subIn X Z.g4
  simp only [checkBuiltinCall, hk, hsplit]
  refine wpAny_bind ?_
  unfold isInstance
  repeat (first | (with_reducible refine wpAny_loadPart_at hx ?_; rw [hc]) | with_reducible refine Looks.at hs ?_ | wp_step)
  exact hq
theorem xc_call {tk : Tok} {R : Result -> Shared -> Prop} (Z : ExcK K C) (X : K.In h) (hx : h.get? a = some o) (hc : o.cls = .ref C) (hq : R (.ok (.ret (.ref C))) ⟨h, g, d, t, os⟩) :
    codeAny (model prog w) A (.call (.builtin "BaseException.__getattribute__") ⟨[.ref a, .str "__class__" tk], []⟩) R ⟨h, g, d, t, os⟩ :=
  codeAny_call_builtin F.attrBase_ValueError.ga.plain F.entry_bexc_ga (xc_check Z X hx hc (xc_entry Z X hx hc hq))
theorem xc_by {tk : Tok} {Q : Value -> Shared -> Prop} (Z : ExcK K C) (X : K.In h) (hx : h.get? a = some o) (hc : o.cls = .ref C) (hq : Q (.ref C) ⟨h, g, d, t, os⟩) :
    wpAny (model prog w) A (getAttrBy (.ref a) (.str "__class__" tk) false) Q E ⟨h, g, d, t, os⟩ := by
  have f3 := F.attrBase_ValueError.ga.bind (.ref a)
  have y0 : (false && onTheHeap (Value.builtin "BaseException.__getattribute__")) = false := rfl
  have y2 : (Value.builtin "BaseException.__getattribute__" == Value.builtin "object.__getattribute__") = false := by decide +kernel
  have y1 : (onTheHeap (Value.ref C) && Value.builtin "BaseException.__getattribute__" == Value.builtin "object.__getattribute__") = false := by rw [y2]; rfl
  have l1 : Looks (model prog w) h (typeLookup (.ref C) "__getattribute__") _ := looks_findIn X Z.g1
  have l2 : Looks (model prog w) h (typeLookup (.ref C) "__getattr__") _ := looks_findIn X Z.g2
  repeat (any_goals (first | assumption | (with_reducible refine wpAny_loadPart_at hx ?_; rw [hc]) | with_reducible refine Looks.at l1 ?_ | with_reducible refine Looks.at l2 ?_ | wp_step))
  refine xc_call Z X hx hc ?_
  repeat (any_goals (first | assumption | wp_step))
theorem xc_attr {Q : Option Value -> Shared -> Prop} (Z : ExcK K C) (X : K.In h) (hx : h.get? a = some o) (hc : o.cls = .ref C) (hq : Q (some (.ref C)) ⟨h, g, d, t + 1, os⟩) :
    wpAny (model prog w) A (getAttr? (.ref a) "__class__") Q E ⟨h, g, d, t, os⟩ := by
  unfold getAttr? getAttrBy?
  repeat (any_goals (first | assumption | with_reducible apply xc_by Z X hx hc | wp_step))
end
def ExcObj (a C : Addr) (h : Heap) : Prop := ∃ o, h.get? a = some o /\ o.cls = .ref C
theorem kitx_exc {K : Frag} {a C : Addr} (Z : ExcK K C) : KitX K (.ref a) (.ref C) (ExcObj a C) where
  ty := fun M h _ p => by
    obtain ⟨o, h1, h2⟩ := p
    exact h2 ▸ (Looks.ld h1).andThen .now
  it := fun M h X _ => by
    have z0 := Z.g6
    unfold clsIn at z0
    split at z0
    · rename_i ho
      intro A' Q' E' s' k q
      unfold isType loadHead
      exact wpAny_bind (wpAny_loadPart (k _ _ (X _ _ ho)) (wpAny_pure q))
    · cases z0
  ne := fun h tp dd its n sl X htp => by
    refine Bool.eq_false_iff.mpr fun q => ?_
    have e : Value.ref C = .ref tp := beq_iff_eq.mp q
    cases e
    have z0 := Z.g6
    unfold clsIn at z0
    split at z0
    · rename_i ho
      rw [X _ _ ho] at htp
      cases htp
    · cases z0
  ca := fun {prog w A E Q s} X p k => by
    obtain ⟨h, g, d, t, os⟩ := s
    obtain ⟨o, h1, h2⟩ := p
    exact xc_attr Z X h1 h2 k
section
variable {X : Cx}
end
end L2
namespace L2
open PySem PySem.Spec PyProof.Rows PySem.W
section
variable {X : Cx} {pins : List (Addr × Obj)} {σ : St} {H H' : Hp} {s s' : Shared}
theorem Inv.track {a : Addr} {o : HO} (I : Inv X pins σ H s) (hn : H a = none) (new : ObjOk X.prog X.w (upd H a o) s.heap a o) (hL : a ≠ X.env.locals) (hC : ∀ x c, X.env.cells.lookup x = some c -> c ≠ a) (hp : ∀ p ∈ X.pn ++ pins, p.1 ≠ a)
    (h0 : ∀ b u, X.s₀.heap.get? b = some u -> b ∉ X.ex -> b ≠ a) : Inv X pins σ (upd H a o) s := by
  have up : ∀ b v, H b = some v -> upd H a o b = some v := fun b v e => by rw [upd_ne (ne_of_none e hn)]; exact e
  refine ⟨I.ok, I.os, I.bare, ⟨I.base.keep, I.base.slot, fun b u e n hx => ?_, I.base.there, fun b xs e => up _ _ (I.base.tups b xs e), fun b u xs e => up _ _ (I.base.frzs b u xs e), fun b ps e => ?_⟩, I.loc, I.cell, ?_, fun x c e => ?_, fun p q => ?_, HOk.track I.hok hn new, I.len⟩
  · rw [upd_ne (h0 b u e hx)]
    exact I.base.free b u e n hx
  · obtain ⟨m, e'⟩ := I.base.tbls b ps e
    exact ⟨m, up _ _ e'⟩
  · rw [upd_ne (Ne.symm hL)]
    exact I.free
  · rw [upd_ne (hC x c e)]
    exact I.freeC x c e
  · obtain ⟨e, n, r⟩ := I.pin p q
    exact ⟨e, by rw [upd_ne (hp p q)]; exact n, r⟩
theorem unbind_ok {M : Model} {A : Around} {E : Value -> Shared -> Prop} {i : Nat} {x : Str} {pos : Pos} {Q : Unit -> Shared -> Prop} (I : Inv X pins σ H s) (hN : X.N.Nodup) (hi : X.N[i]? = some x) (hx : X.env.scope.names.lookup x = some .local)
    (h : ∀ s', Inv X pins (σ.set i none) H s' -> Q () s') : wpAny M A (do bindName X.env x .none; unbindBehindTheSuite X.env x pos) Q E s := by
  obtain ⟨m, hn, hl⟩ := id I.loc
  have kd : (X.env.scope.kind == .class || (X.env.scope.kind == .module && X.env.locals != X.env.globals)) = false := by rw [I.ok.kind]; rfl
  have hiσ : i < σ.length := by rw [I.len]; exact (List.getElem?_eq_some_iff.mp hi).1
  refine wpAny_nameGoes_keeps (env := X.env) hx hn kd fun h' v hn' hs => ?_
  obtain ⟨oL, _, _, hoL, _⟩ := id hn
  have away : ∀ b o, X.s₀.heap.get? b = some o -> b ≠ X.env.locals := fun b o e => Nat.ne_of_lt (Nat.lt_of_lt_of_le (Heap.lt_size e) I.ok.above)
  refine h _ ⟨I.ok, I.os, I.bare, ⟨fun b o e n hb hx => (hs.2 b (away b o e)).trans (I.base.keep b o e n hb hx), fun b o e n hb hx => ?_, I.base.free, fun b o e hx => ?_, I.base.tups, I.base.frzs, I.base.tbls⟩, ⟨_, hn', fun j y v' e1 e2 e3 => ?_⟩, fun y c e => ?_, I.free, I.freeC, fun p hp => ?_, I.hok.stays fun b u v hv z => (hs.2 b fun q => ?_).trans z, by simpa using I.len⟩
  · obtain ⟨sl, e1⟩ := I.base.slot b o e n hb hx
    exact ⟨sl, (hs.2 b (away b o e)).trans e1⟩
  · obtain ⟨o', e1⟩ := I.base.there b o e hx
    exact ⟨o', (hs.2 b (away b o e)).trans e1⟩
  · by_cases hj : j = i
    · subst hj
      rw [List.getElem?_set_self hiσ] at e2
      cases e2
    · rw [List.getElem?_set_ne (Ne.symm hj)] at e2
      obtain ⟨u', r', q⟩ := hl j y v' e1 e2 e3
      refine ⟨u', r', ?_⟩
      rcases q with ⟨k, e⟩ | ⟨k, c, e, z⟩
      · refine .inl ⟨k, ?_⟩
        have : y ≠ x := fun e => hj (nodup_ix hN e1 (e ▸ hi))
        simp [this, e]
      · exact .inr ⟨k, c, e, z.sameBut hs (I.cne y c e)⟩
  · obtain ⟨w', z⟩ := I.cell y c e
    exact ⟨w', z.sameBut hs (I.cne y c e)⟩
  · obtain ⟨e, n, ne, nf, d⟩ := I.pin p hp
    exact ⟨(hs.2 p.1 ne).trans e, n, ne, nf, d⟩
  · rw [q, I.free] at hv
    cases hv
theorem caught_inv {B h' : Heap} (I : Inv X pins σ H s) (os : s'.os = s.os) (bare : AllBare s'.gens) (un : Un (frs X.stack) [] H H' s.heap s'.heap) (hok : HOk X.prog X.w H' s'.heap) (fr : s'.heap.FunFrames B X.stack)
    (kB : ∀ b o, s'.heap.get? b = some o -> ((∃ q, s.heap.get? b = some q) \/ ∃ q, H' b = some q) -> b ∉ frs X.stack -> B.get? b = some o) (st : B.StaysIn h') (up : s'.heap.UpToSlots h') : Inv X pins σ H' { s' with heap := h' } := by
  have sl : ∀ b o, b ∈ frs X.stack -> s'.heap.get? b = some o -> ∃ sl, h'.get? b = some { o with slots := sl } := fun b o hb z => up b o z (frames_nf fr hb z)
  refine I.call' (ch := []) (s' := { s' with heap := h' }) os ⟨fun b o z n hb hx => ?_, fun b o z n hb hx => ?_, un.free, fun b o z hx => ?_, un.tups, un.frzs, un.tbls⟩ (hok.stays fun b u v hv z => ?_) bare (fun b z => absurd z (by simp))
  · exact st b o (kB b o (un.keep b o z n hb hx) (.inl ⟨o, z⟩) hb)
  · obtain ⟨s1, z2⟩ := un.slot b o z n hb hx
    obtain ⟨s2, z3⟩ := sl b _ hb z2
    exact ⟨s2, z3⟩
  · obtain ⟨o', z2⟩ := un.there b o z hx
    by_cases hb : b ∈ frs X.stack
    · obtain ⟨s2, z3⟩ := sl b _ hb z2
      exact ⟨_, z3⟩
    · exact ⟨_, st b o' (kB b o' z2 (.inl ⟨o, z⟩) hb)⟩
  · refine st b u (kB b u z (.inr ⟨v, hv⟩) fun hb => ?_)
    obtain ⟨_, o, z1, _⟩ := I.stack.mem hb
    have := un.free b o z1 (I.stkFree b hb) (by simp)
    rw [hv] at this
    cases this
end
def Cx.marked (X : Cx) (v : Value) : Cx := { X with A := X.A.mark (some v), calm := false, xe := fun _ _ => False }
section
variable {X : Cx} {pins : List (Addr × Obj)} {σ : St} {H H' : Hp} {s s' : Shared} {v : Value}
theorem Inv.mark (I : Inv X pins σ H s) : Inv (X.marked v) pins σ H s :=
  ⟨⟨I.ok.mod, I.ok.kind, I.ok.glob, I.ok.blt, I.ok.above, I.ok.inj, I.ok.has, I.ok.cab, fun z => (by cases z), I.ok.frames, I.ok.stk, I.ok.exf, I.ok.bs, I.ok.bsz, I.ok.noex, I.ok.exfs, I.ok.funs, I.ok.frf⟩, I.os, I.bare, I.base, I.loc, I.cell, I.free, I.freeC, I.pin, I.hok, I.len⟩
theorem Inv.unmark (I : Inv (X.marked v) pins σ H s) (hd : X.calm = true -> X.A.handled = none) : Inv X pins σ H s :=
  ⟨⟨I.ok.mod, I.ok.kind, I.ok.glob, I.ok.blt, I.ok.above, I.ok.inj, I.ok.has, I.ok.cab, hd, I.ok.frames, I.ok.stk, I.ok.exf, I.ok.bs, I.ok.bsz, I.ok.noex, I.ok.exfs, I.ok.funs, I.ok.frf⟩, I.os, I.bare, I.base, I.loc, I.cell, I.free, I.freeC, I.pin, I.hok, I.len⟩
end
theorem xc_matches {K : Frag} {M : Model} {A : Around} {E : Value -> Shared -> Prop} {h : Heap} {g : Array GenState} {d : Drawn} {t : Nat} {os : OsState} {e C W : Addr} {oe : Obj} {bmW : List Value} {Q : Bool -> Shared -> Prop} (X : K.In h) (hW : excB K W bmW = true) (sb : subIn K (.ref C) (.ref W) = some true)
    (he : h.get? e = some oe) (hcls : oe.cls = .ref C) (hq : Q true ⟨h, g, d, t, os⟩) : wpAny M A (excMatches (.ref e) (.ref W)) Q E ⟨h, g, d, t, os⟩ := by
  obtain ⟨N, nm, qn, bs, hd, sn, sub, ab, col, dd, k0, k1, k2, k3, k5, mN, hC, e2, e3, e4⟩ := (excAt_of X hW).ex
  have c1 : (Value.ref W :: bmW).contains (.type "BaseException") = true := by rw [List.contains_cons, e4.hasType bmVE_base, Bool.or_true]
  have l1 : Looks M h (isSubtype (.ref C) (.ref W)) true := looks_subIn X sb
  have f := tc_notTuple
  unfold excMatches
  repeat (first | (with_reducible refine wpAny_loadPart_at he ?_; rw [hcls]) | with_reducible refine wpAny_loadPart_at hC ?_ | with_reducible refine Looks.at l1 ?_ | (with_reducible refine wpAny_isSubtype_exc hC ?_; rw [c1]) | wp_step)
  exact hq
theorem passX {P : Program} {w : World} {X : Cx} : Passes (CXr P w) X E0 := fun _ _ _ _ _ _ _ ⟨_, _, _, _, _, _, _, _, _, _, _, _, z⟩ => z.elim
end L2
namespace L2
open PySem PySem.Spec PyProof.Rows
open PySem.AutoSeq1 (wpAny_loadPart')
section
variable {prog : Program} {w : World} {A : Around} {E : Value -> Shared -> Prop} {s : Shared}
theorem code_collect_range {R : Result -> Shared -> Prop} {r : Addr} {a b c : Int} {t u v : Tok} {n : Nat} (hh : A.handled = none) (hr : IsRange s.heap r a b c t u v) (hsm : Builtin.Range.small a b c = true) (hn : Builtin.Range.rangeSize a b c = n) (hl : n <= 2 ^ 24)
    (hR : ∀ h' tk acc c', (∀ b o, s.heap.get? b = some o -> h'.get? b = some o) -> h'.get? s.heap.objs.size = some { cls := .type "list", dict := none, data := .seq acc c', slots := #[] } -> ItemsOf (fun i v => ∃ t, v = .int (a + i * c) t) acc n ->
      R (.ok (.ret (.ref s.heap.objs.size))) { s with heap := h', toks := tk }) : codeAny (model prog w) A (.builtin "proto.collect" ⟨[.ref r], []⟩) R s := by
  refine codeAny_builtin PySem.F.entry_proto_collect ?_
  rw [Around.under_plainId PySem.F.plain_proto_collect _]
  show wpAny _ A.in1 (newList [] >>= fun l => again (.builtin "list.__iadd__" ⟨[l, .ref r], []⟩)) _ _ s
  refine wpAny_bind (wpAny_newObj_type ?_)
  refine wpAny_pure ⟨plainId_quiet PySem.F.plain_list_iadd _, codeAny_builtin PySem.F.entry_list_iadd ?_⟩
  rw [Around.under_plainId PySem.F.plain_list_iadd _]
  show wpAny _ A.in1 (Builtin.List.listExtendWith (.ref s.heap.objs.size) (.ref r) (.ref s.heap.objs.size)) _ _ _
  exact wpAny_extend_range (R := R) (s := { s with heap := s.heap.push { cls := .type "list", data := .seq ([] : List Value).toArray } }) hh (Heap.get?_push_of_some _ hr) hsm hn hl s.heap.objs.size (.ref s.heap.objs.size) 0 (Heap.get?_push_size _ rfl) fun h' tk acc c' hk hS hacc =>
    hR h' tk acc c' (fun b o e => hk b o (Nat.ne_of_lt (Heap.lt_size e)) (Heap.get?_push_of_some _ e)) hS hacc
theorem collect_range {Q : List Value -> Shared -> Prop} {r : Addr} {a b c : Int} {t u v : Tok} {n : Nat} (hh : A.handled = none) (hr : IsRange s.heap r a b c t u v) (hsm : Builtin.Range.small a b c = true) (hn : Builtin.Range.rangeSize a b c = n) (hl : n <= 2 ^ 24)
    (hQ : ∀ h' tk acc, (∀ b o, s.heap.get? b = some o -> h'.get? b = some o) -> s.heap.objs.size < h'.objs.size -> ItemsOf (fun i v => ∃ t, v = .int (a + i * c) t) acc n -> Q acc.toList { s with heap := h', toks := tk }) : wpAny (model prog w) A (collect (.ref r)) Q E s := by
  unfold collect
  refine wpAny_bind (wpAny_runValue (code_collect_range hh hr hsm hn hl fun h' tk acc c' hk hS hacc => ?_))
  show wpAny _ A (load s.heap.objs.size >>= _) _ _ _
  refine wpAny_bind (wpAny_load hS ?_)
  exact wpAny_pure (hQ h' tk acc hk (Heap.lt_size hS) hacc)
end
theorem new_tuple_range (r : Addr) (a b c : Int) (t u v : Tok) (n : Nat) (hsm : Builtin.Range.small a b c = true) (hn : Builtin.Range.rangeSize a b c = n) (hl : n <= 2 ^ 24) :
    Meets (Builtin.«tuple.__new__» ⟨[.type "tuple", .ref r], []⟩)
      (fun A R s => (A.handled = none /\ IsRange s.heap r a b c t u v) /\ ∀ (h' : Heap) (tk : Nat) (acc : Array Value), (∀ b o, s.heap.get? b = some o -> h'.get? b = some o) -> s.heap.objs.size < h'.objs.size -> ItemsOf (fun i v => ∃ t, v = .int (a + i * c) t) acc n ->
        R (.ok (.ret (.ref h'.objs.size))) { s with heap := h'.push { cls := .type "tuple", data := .seq acc }, toks := tk }) :=
  .of_wp fun prog w A R s h => by
    obtain ⟨⟨hh, hr⟩, h⟩ := h
    have hsub := sub_tuple_self
    have hinit := init_tuple_lookup
    have hmh := madeHere_tuple
    have hT : s.TypeIs (.ref r) "range" := ⟨_, hr, rfl⟩
    have hh1 : A.in1.handled = none := hh
    wp_walk using wpAny_typeOf hT, collect_range hh1 hr hsm hn hl
    intro h' tk acc hk hz hacc
    show wpAny _ _ (Builtin.Tuple.tupleExact acc.toList.toArray >>= fun v => ret v) _ _ _
    unfold Builtin.Tuple.tupleExact
    refine wpAny_bind (wpAny_newObj_type ?_ (show acc.toList.toArray.size <= sizeLine by simp only [Array.toArray_toList]; rw [hacc.1, sizeLine_eq]; omega))
    refine wpAny_pure ⟨_, rfl, ?_⟩
    have e : acc.toList.toArray = acc := by simp
    rw [e]
    exact h h' tk acc hk hz hacc
def upN (n : Nat) : List V := (List.range n).map fun (i : Nat) => V.int i
theorem items_up {acc : Array Value} {n : Nat} (h : ItemsOf (fun i v => ∃ t, v = .int (0 + (i : Int) * 1) t) acc n) : Vals (upN n) acc.toList := by
  obtain ⟨hz, hi⟩ := h
  have key : ∀ (l : List Value) (k : Nat), (∀ (j : Nat) (v : Value), l[j]? = some v -> ∃ t, v = Value.int ((k + j : Nat) : Int) t) -> Vals ((List.range' k l.length).map fun (i : Nat) => V.int i) l := by
    intro l
    induction l with
    | nil => intro k _; exact .nil
    | cons a r ih =>
      intro k hk
      obtain ⟨t, e⟩ := hk 0 a rfl
      refine .cons ⟨t, by simpa using e⟩ (ih (k + 1) fun j v e => ?_)
      obtain ⟨t', e'⟩ := hk (j + 1) v (by simpa using e)
      exact ⟨t', by rw [e']; congr 2; omega⟩
  have := key acc.toList 0 fun j v e => by
    obtain ⟨t, e'⟩ := hi j v (by simpa using e)
    exact ⟨t, by rw [e']; congr 1; simp⟩
  have el : acc.toList.length = n := by simpa using hz
  rw [el] at this
  unfold upN
  rw [List.range_eq_range']
  exact this
section
variable {X : Cx}
theorem call_range1 : CallR X (.type "range") (fun xs H Q => ∃ j : Int, xs = [.int j] /\ ∀ p, H p = none -> Q (.ref p) (upd H p (.rng 0 j))) := by
  intro pins s σ H xs us Q I r h
  obtain ⟨j, rfl, q⟩ := h
  obtain ⟨u, rfl, ru⟩ := Vals.one r
  obtain ⟨t, rfl⟩ := ru
  refine call_range_1 ⟨.ref s.heap.objs.size, upd H s.heap.objs.size (.rng 0 j), I.laid (fun b o e => Heap.get?_push_of_some _ e) (Nat.le_refl _) ?_, rfl, q _ (I.hok.fresh (Nat.le_refl _))⟩
  exact ⟨_, _, _, Heap.get?_push_size _ rfl⟩
theorem size1 (n : Nat) : Builtin.Range.rangeSize 0 (n : Int) 1 = (n : Int) := by rw [rangeSize_one]; split <;> omega
theorem call_list_rng (hc : X.calm = true) : CallR X (.type "list") (fun xs H Q => ∃ (p : Addr) (n : Nat), xs = [.ref p] /\ H p = some (.rng 0 n) /\ n <= 1000 /\ ∀ l, H l = none -> Q (.ref l) (upd H l (.lst (upN n)))) := by
  intro pins s σ H xs us Q I r h
  obtain ⟨p, n, rfl, hp, hn, q⟩ := h
  obtain ⟨u, rfl, ru⟩ := Vals.one r
  cases (show u = Value.ref p from ru)
  obtain ⟨t1, t2, t3, e⟩ := I.hok p _ hp
  refine call_list_range (t := t1) (u := t2) (v := t3) (I.ok.hd hc) e (small_one (by decide) (by decide) (by omega) (by omega)) (size1 n) (by omega) fun h' tk acc c' hk hS hacc => ?_
  refine ⟨.ref s.heap.objs.size, upd H s.heap.objs.size (.lst (upN n)), I.laid hk (Nat.le_refl _) ?_, rfl, q _ (I.hok.fresh (Nat.le_refl _))⟩
  exact ⟨by unfold upN; rw [List.length_map, List.length_range]; exact Nat.le_trans hn (by decide), acc.toList, c', items_up hacc, by rw [hS]⟩
def dcr : List Int -> Nat
  | [] => 0
  | x :: xs => dcr xs + if x ∈ xs then 0 else 1
def dcount (l : List Int) : Nat := dcr l.reverse
theorem firstMet_dc (ns : List Int) : ∀ i, i <= ns.length -> (firstMet (fun i => ns.getD i 0) i).length = dcount (ns.take i)
  | 0, _ => rfl
  | i + 1, h => by
    have hi : i < ns.length := by omega
    have ih := firstMet_dc ns i (by omega)
    have e1 : ns.take (i + 1) = ns.take i ++ [ns.getD i 0] := by
      rw [List.take_add_one]
      congr 1
      simp [List.getD, hi]
    have e2 : ((List.range i).map fun i => ns.getD i 0) = ns.take i := by
      apply List.ext_getElem?
      intro j
      by_cases hj : j < i
      · rw [List.getElem?_take_of_lt hj, List.getElem?_map, List.getElem?_range hj]
        have : j < ns.length := by omega
        simp [List.getD, this]
      · rw [List.getElem?_take_eq_none (by omega)]
        rw [List.getElem?_eq_none (by simp; omega)]
    have ea := firstMet_any (fun i => ns.getD i 0) i (ns.getD i 0)
    rw [e2] at ea
    rw [firstMet_succ, step_length, ea, ih, e1]
    unfold dcount
    rw [List.reverse_append]
    show _ = dcr (ns.getD i 0 :: (ns.take i).reverse)
    show _ = dcr (ns.take i).reverse + if ns.getD i 0 ∈ (ns.take i).reverse then 0 else 1
    by_cases hm : ns.getD i 0 ∈ ns.take i
    · have h1 : (ns.take i).any (· == ns.getD i 0) = true := List.any_eq_true.mpr ⟨_, hm, by simp⟩
      rw [h1, if_pos (List.mem_reverse.mpr hm)]
      simp
    · have h1 : (ns.take i).any (· == ns.getD i 0) = false := by
        rw [List.any_eq_false]
        intro x hx e
        have : x = ns.getD i 0 := by simpa using e
        exact hm (this ▸ hx)
      rw [h1, if_neg (fun z => hm (List.mem_reverse.mp z))]
      simp
theorem intsAre_V {ns : List Int} : ∀ {us : List Value}, Vals (ns.map V.int) us -> IntsAre us ns := by
  induction ns with
  | nil => intro us r; rw [Vals.zero r]; exact .nil
  | cons y ys ih =>
    intro us r
    cases r with
    | cons h t =>
      obtain ⟨tk, rfl⟩ := h
      exact .cons y tk (ih t)
theorem call_set_ints (hc : X.calm = true) : CallR X (.type "set") (fun xs H Q => ∃ (p : Addr) (ns : List Int), xs = [.ref p] /\ SqL X.K H p (ns.map V.int) /\ ns.length <= 1000 /\ ∀ l S, H l = none -> Q (.ref l) (upd H l (.set S (dcount ns)))) := by
  intro pins s σ H xs us Q I r h
  obtain ⟨p, ns, rfl, hp, hn, q⟩ := h
  obtain ⟨u, rfl, ru⟩ := Vals.one r
  cases (show u = Value.ref p from ru)
  obtain ⟨its, r1, t1, _⟩ := I.list hp
  have hl : its.length = ns.length := by have := r1.length; rw [List.length_map] at this; omega
  refine PySem.call_set_list (I.ok.hd hc) t1.isList (by simpa using intsAre_V r1) (by show its.toArray.size + 1 < 4096; rw [List.size_toArray]; omega) fun h' tk hS hk => ?_
  have hs : its.toArray.size = ns.length := by rw [List.size_toArray, hl]
  rw [hs, firstMet_dc ns ns.length (Nat.le_refl _), List.take_length] at hS
  exact ⟨.ref s.heap.objs.size, upd H s.heap.objs.size (.set _ (dcount ns)), I.laid (fun b o e => hk b o (Heap.lt_size e) e) (Nat.le_refl _) hS, rfl, q _ _ (I.hok.fresh (Nat.le_refl _))⟩
theorem call_len_setH : CallR X (.builtin "len") (fun xs H Q => ∃ (p : Addr) (S : Int -> Bool) (n : Nat), xs = [.ref p] /\ H p = some (.set S n) /\ Q (.int n) H) := by
  intro pins s σ H xs us Q I r h
  obtain ⟨p, S, n, rfl, hp, q⟩ := h
  obtain ⟨u, rfl, ru⟩ := Vals.one r
  cases (show u = Value.ref p from ru)
  obtain ⟨o, es, ep, t, e1, e2, e3, _, _, e4, e5, e6⟩ := I.hok p _ hp
  subst e6
  refine call_len_set e1 e2 e3 e5 ?_ ⟨.int es.size, H, I.tok _, ⟨_, rfl⟩, q⟩
  have : es.size < 4096 := e4
  omega
theorem not_modules {pins : List (Addr × Obj)} {σ : St} {H : Hp} {s : Shared} (I : Inv X pins σ H s) : (s.heap.objs.size == sysModules) = false := by
  have h1 : mainGlobals < s.heap.objs.size := by
    obtain ⟨o, _, _, e, _⟩ := I.mod.glob
    exact Heap.lt_size (I.bk _ _ e)
  refine beq_eq_false_iff_ne.mpr fun z => ?_
  have h2 : sysModules <= mainGlobals := by decide
  rw [z] at h1
  exact absurd (Nat.lt_of_le_of_lt h2 h1) (Nat.lt_irrefl _)
theorem pe_dict0 {pos : Pos} : PE X (.Dict [] [] pos) (fun _ H Q => ∀ p, H p = none -> Q (.ref p) (upd H p (.dK []))) := by
  intro pins s σ H Q I h
  refine wpAny_Dict_empty ⟨.ref s.heap.objs.size, upd H s.heap.objs.size (.dK []), I.laid (t' := s.toks) (fun b o e => Heap.get?_push_of_some _ e) (Nat.le_refl _) ?_, rfl, h _ (I.hok.fresh (Nat.le_refl _))⟩
  exact ⟨Nat.zero_le _, not_modules I, [], .nil, Heap.DictOf.new s.heap⟩
end
theorem pass_on {P : Program} {w : World} {K : PySem.W.Frag} {mg : Str -> Option Value} {base : Heap} {N : List Str} {qual : Str} {scope : Scope} {f : Addr} {cd : Value} {A : Around} {outer : List Env} {s0 : Shared} {H0 : Hp} {E : XK} :
    Passes (CXr P w) (cxOf (CXr P w) P w K mg base N qual scope f cd A outer s0 H0 E) E := by
  intro pins σ H s e s' I hx
  obtain ⟨ea, C, a0, B, H', rfl, os, bare, un, hok, fly, kB, q⟩ := hx
  have hfr : (A.deeper (envOfC qual scope s0.heap.objs.size f cd)).frames = some (envOfC qual scope s0.heap.objs.size f cd :: outer) := I.ok.frames
  show wpAny (model P w) (A.deeper (envOfC qual scope s0.heap.objs.size f cd)) (leaving (envOfC qual scope s0.heap.objs.size f cd) (.ref ea)) (fun _ s'' => CXr P w outer H0 s0 E (.ref ea) s'') _ s'
  have fly0 : Heap.FlyingW B (envOfC qual scope s0.heap.objs.size f cd :: outer) ea (.ref C) a0 s'.heap := fly
  refine wpAny_leaves_onW hfr rfl fly0 fun h' fly' up => ?_
  have eS : frs (envOfC qual scope s0.heap.objs.size f cd :: outer) = s0.heap.objs.size :: frs outer := rfl
  have fsub : ∀ b, b ∉ frs outer -> b ≠ s0.heap.objs.size -> b ∉ frs (envOfC qual scope s0.heap.objs.size f cd :: outer) := fun b h1 h2 hb => by
    rw [eS] at hb
    exact (List.mem_cons.mp hb).elim h2 h1
  have fin : ∀ b, b ∈ frs outer -> b ∈ frs (envOfC qual scope s0.heap.objs.size f cd :: outer) := fun b hb => by rw [eS]; exact List.mem_cons_of_mem _ hb
  have ne0 : ∀ b o, s0.heap.get? b = some o -> b ≠ s0.heap.objs.size := fun b o z => Nat.ne_of_lt (Heap.lt_size z)
  have BS : Un (frs outer) [] H0 H s0.heap s.heap := I.base
  have un' : Un (frs (envOfC qual scope s0.heap.objs.size f cd :: outer)) [] H H' s.heap s'.heap := un
  have sl : ∀ b o, b ∈ frs outer -> s'.heap.get? b = some o -> ∃ sl, h'.get? b = some { o with slots := sl } := fun b o hb z => up b o z (frames_nf fly0.2.2.1 (fin b hb) z)
  have kB' : ∀ b o, s'.heap.get? b = some o -> ((∃ q, s.heap.get? b = some q) \/ ∃ q, H' b = some q) -> b ∉ frs (envOfC qual scope s0.heap.objs.size f cd :: outer) -> B.get? b = some o := kB
  have trf : ∀ b, b ∈ frs (envOfC qual scope s0.heap.objs.size f cd :: outer) -> H' b = none := fun b hb => by
    obtain ⟨_, o, z1, _⟩ := (show s.heap.FunFrames base (envOfC qual scope s0.heap.objs.size f cd :: outer) from I.stack).mem hb
    exact un'.free b o z1 (I.stkFree b hb) (by simp)
  refine ⟨ea, C, a0, B, H', rfl, os.trans I.os, bare, ⟨fun b o z n hb hx => ?_, fun b o z n hb hx => ?_, fun b o z n hx => ?_, fun b o z hx => ?_, fun b xs z => un'.tups b xs (BS.tups b xs z), fun b o u z => un'.frzs b o u (BS.frzs b o u z), fun b ps z => ?_⟩, ?_, fly', fun b o z hh hb => ?_, q⟩
  · have z1 := BS.keep b o z n hb hx
    have z2 := un'.keep b o z1 (BS.free b o z n hx) (fsub b hb (ne0 b o z)) (by simp)
    exact fly'.1 b o (kB' b o z2 (.inl ⟨o, z1⟩) (fsub b hb (ne0 b o z)))
  · obtain ⟨s1, z1⟩ := BS.slot b o z n hb hx
    obtain ⟨s2, z2⟩ := un'.slot b _ z1 (BS.free b o z n hx) (fin b hb) (by simp)
    obtain ⟨s3, z3⟩ := sl b _ hb z2
    exact ⟨s3, z3⟩
  · obtain ⟨o', z1⟩ := BS.there b o z hx
    exact un'.free b o' z1 (BS.free b o z n hx) (by simp)
  · obtain ⟨o1, z1⟩ := BS.there b o z hx
    obtain ⟨o2, z2⟩ := un'.there b o1 z1 (by simp)
    by_cases hb : b ∈ frs outer
    · obtain ⟨s3, z3⟩ := sl b _ hb z2
      exact ⟨_, z3⟩
    · exact ⟨_, fly'.1 b o2 (kB' b o2 z2 (.inl ⟨o1, z1⟩) (fsub b hb (ne0 b o z)))⟩
  · obtain ⟨m1, z1⟩ := BS.tbls b ps z
    obtain ⟨m2, z2⟩ := un'.tbls b _ z1
    exact ⟨m1 ++ m2, by rw [z2, Array.append_assoc]⟩
  · refine hok.stays fun b u v hv z => fly'.1 b u (kB' b u z (.inr ⟨v, hv⟩) fun hb => ?_)
    have := trf b hb
    rw [hv] at this
    cases this
  · have ex : ∃ u, s'.heap.get? b = some u /\ B.get? b = some u := by
      rcases hh with ⟨q1, z1⟩ | ⟨q1, z1⟩
      · obtain ⟨o1, z2⟩ := BS.there b q1 z1 (by simp)
        obtain ⟨o2, z3⟩ := un'.there b o1 z2 (by simp)
        exact ⟨o2, z3, kB' b o2 z3 (.inl ⟨o1, z2⟩) (fsub b hb (ne0 b q1 z1))⟩
      · obtain ⟨u, z2⟩ := (hok b q1 z1).there
        refine ⟨u, z2, kB' b u z2 (.inr ⟨q1, z1⟩) fun hm => ?_⟩
        have := trf b hm
        rw [z1] at this
        cases this
    obtain ⟨u, _, hu⟩ := ex
    have := fly'.1 b u hu
    rw [z] at this
    cases this
    exact hu
section
variable {X : Cx}
end
theorem vals_of_ints {us : List Value} {ns : List Int} (h : IntsAre us ns) : Vals (ns.map V.int) us := by
  induction h with
  | nil => exact .nil
  | cons n t _ ih => exact .cons ⟨t, rfl⟩ ih
section
variable {X : Cx}
def rSortedI (K : PySem.W.Frag) : List V -> Hp -> VK -> Prop := fun xs H Q => ∃ (p : Addr) (ns : List Int), xs = [.ref p] /\ SqL K H p (ns.map V.int) /\ ns.length < 64 /\ ∀ (l : Addr) (ms : List Int), ms.Perm ns -> ms.Pairwise (· <= ·) -> H l = none -> Q (.ref l) (upd H l (.lst (ms.map V.int)))
theorem call_sortedI : CallR X (.builtin "sorted") (rSortedI X.K) := by
  intro pins s σ H xs us Q I r h
  obtain ⟨p, ns, rfl, hp, hn, q⟩ := h
  obtain ⟨u, rfl, ru⟩ := Vals.one r
  cases (show u = Value.ref p from ru)
  obtain ⟨its, r1, t1, _⟩ := I.list hp
  have hl : its.length = ns.length := by have := r1.length; rw [List.length_map] at this; lia
  refine sorted_ints t1.isList (intsAre_of r1) (by lia) fun out ms a1 a2 a3 => ?_
  obtain ⟨e, he⟩ := sortedAll_at s.heap its out
  have fr : s.heap.objs.size <= s.heap.objs.size + 1 := Nat.le_succ _
  refine ⟨.ref (s.heap.objs.size + 1), upd H (s.heap.objs.size + 1) (.lst (ms.map V.int)), I.laid (t' := s.toks) (fun b o z => sortedAll_old z) fr ?_, rfl, q _ ms a2 a3 (I.hok.fresh fr)⟩
  refine ⟨?_, out.toList, e, vals_of_ints a1, by rw [he]⟩
  rw [List.length_map, a2.length_eq]
  exact Nat.le_trans (Nat.le_of_lt hn) (by decide)
end
end L2
namespace L2
open PySem PySem.Spec PyProof.Rows PySem.W
abbrev TSX := Ends -> (St -> XK) -> St -> Hp -> Prop
def XP (X : Cx) (pins : List (Addr × Obj)) (DX : St -> XK) (e : Value) (s' : Shared) : Prop := ∃ σ H s, Inv X pins σ H s /\ CXr X.prog X.w X.stack H s (DX σ) e s'
section
variable {X : Cx}
def xCall (sp : Sp) (ta : TA) : TSX := fun D DX σ H => ta σ H fun vs H1 => sp (vs ++ []) H1 (fun _ H2 => D.nx σ H2) (DX σ)
end
end L2
namespace L2
open PySem PySem.Spec PyProof.Rows
section
variable {X : Cx}
def rCatA (K : PySem.W.Frag) : R2 := fun x y H Q => ∃ a b xs ys, x = .ref a /\ y = .ref b /\ H a = some (.tup xs) /\ H b = some (.tup ys) /\ xs.length + ys.length <= sizeLine /\ ∀ p H', Same H H' -> H' p = some (.tup (xs ++ ys)) -> Q (.ref p) H'
theorem op_catA : OpR X (binaryOp .Add) (rCatA X.K) := by
  intro pins s σ H x y v u Q I rx ry h
  obtain ⟨a, b, xs, ys, rfl, rfl, ha, hb, hz, q⟩ := h
  by_cases hx : xs = []
  · subst hx
    exact op_cat0 pins s σ H _ _ v u Q I rx ry ⟨a, b, ys, rfl, rfl, SqT.of ha, SqT.of hb, q b H (Same.refl H) hb⟩
  · refine op_catT pins s σ H _ _ v u Q I rx ry ⟨a, b, xs, ys, rfl, rfl, SqT.of ha, SqT.of hb, hx, hz, fun hy => ?_, fun hy p hp => q p _ (Same.new hp) upd_same⟩
    subst hy
    exact q a H (Same.refl H) (by rw [List.append_nil]; exact ha)
end
section
variable {κ : Type} [DecidableEq κ]
def valV (kvs : List (κ × V)) (k : κ) : Option V := (kvs.find? fun kv => decide (kv.1 = k)).map (·.2)
def putK (kvs : List (κ × V)) (k : κ) (v : V) : List (κ × V) :=
  if (kvs.any fun kv => decide (kv.1 = k)) = true then kvs.map (fun kv => if kv.1 = k then (kv.1, v) else kv) else kvs ++ [(k, v)]
theorem valV_pos {p : κ × V} {r : List (κ × V)} {k : κ} (e : p.1 = k) : valV (p :: r) k = some p.2 := by simp [valV, List.find?_cons, e]
theorem valV_neg {p : κ × V} {r : List (κ × V)} {k : κ} (e : ¬ p.1 = k) : valV (p :: r) k = valV r k := by simp [valV, List.find?_cons, e]
theorem valV_any (k : κ) : ∀ kvs : List (κ × V), (kvs.any fun kv => decide (kv.1 = k)) = (valV kvs k).isSome
  | [] => rfl
  | p :: r => by
    rw [List.any_cons]
    by_cases e : p.1 = k
    · simp only [valV_pos e, decide_eq_true e, Bool.true_or, Option.isSome_some]
    · rw [valV_neg e, decide_eq_false e, Bool.false_or]; exact valV_any k r
theorem length_putK (kvs : List (κ × V)) (k : κ) (v : V) : (putK kvs k v).length <= kvs.length + 1 := by
  unfold putK
  split
  · rw [List.length_map]; lia
  · rw [List.length_append, List.length_cons, List.length_nil]; lia
theorem RelO.isSome_eq {o : Option V} {u : Option Value} (r : RelO o u) : o.isSome = u.isSome := by
  cases o with
  | none => cases u with
    | none => rfl
    | some _ => exact (show False from r).elim
  | some _ => cases u with
    | none => exact (show False from r).elim
    | some _ => rfl
theorem RelO.getD {o : Option V} {u : Option Value} {d : V} {d' : Value} (r : RelO o u) (rd : RelV d d') : RelV (o.getD d) (u.getD d') := by
  cases o with
  | none => cases u with
    | none => exact rd
    | some _ => exact (show False from r).elim
  | some _ => cases u with
    | none => exact (show False from r).elim
    | some _ => exact r
theorem KV.val {kvs : List (κ × V)} {vs : List (κ × Value)} (r : KV kvs vs) (k : κ) : RelO (valV kvs k) (valueAt vs k) := by
  unfold KV at r
  induction r with
  | nil => exact True.intro
  | @cons p q ps qs h t ih =>
    obtain ⟨h1, h2⟩ := h
    by_cases e : p.1 = k
    · have e' : q.1 = k := h1.symm.trans e
      have b : valueAt (q :: qs) k = some q.2 := by simp [valueAt, List.find?_cons, e']
      rw [valV_pos e, b]; exact h2
    · have e' : ¬ q.1 = k := fun z => e (h1.trans z)
      have b : valueAt (q :: qs) k = valueAt qs k := by simp [valueAt, List.find?_cons, e']
      rw [valV_neg e, b]; exact ih
theorem KV.any {kvs : List (κ × V)} {vs : List (κ × Value)} (r : KV kvs vs) (k : κ) : (kvs.any fun kv => decide (kv.1 = k)) = vs.any fun kv => decide (kv.1 = k) := by
  unfold KV at r
  induction r with
  | nil => rfl
  | cons h t ih => rw [List.any_cons, List.any_cons, ih, h.1]
theorem KV.repl {kvs : List (κ × V)} {vs : List (κ × Value)} (r : KV kvs vs) (k : κ) {y : V} {u : Value} (ry : RelV y u) :
    KV (kvs.map fun kv => if kv.1 = k then (kv.1, y) else kv) (vs.map fun kv => if kv.1 = k then (kv.1, u) else kv) := by
  unfold KV at r ⊢
  induction r with
  | nil => exact .nil
  | @cons p q ps qs h t ih =>
    rw [List.map_cons, List.map_cons]
    refine .cons ?_ ih
    obtain ⟨h1, h2⟩ := h
    by_cases e : p.1 = k
    · rw [if_pos e, if_pos (h1.symm.trans e)]; exact ⟨h1, ry⟩
    · rw [if_neg e, if_neg (fun z => e (h1.trans z))]; exact ⟨h1, h2⟩
theorem KV.put {kvs : List (κ × V)} {vs : List (κ × Value)} (r : KV kvs vs) (k : κ) {y : V} {u : Value} (ry : RelV y u) : KV (putK kvs k y) (stored vs k u) := by
  unfold putK stored
  rw [r.any k]
  by_cases e : (vs.any fun kv => decide (kv.1 = k)) = true
  · rw [if_pos e, if_pos e]; exact r.repl k ry
  · rw [if_neg e, if_neg e]; exact Paired.snoc r ⟨rfl, ry⟩
theorem KV.length {kvs : List (κ × V)} {vs : List (κ × Value)} (r : KV kvs vs) : kvs.length = vs.length := Paired.length r
end
theorem kV_is {P : Program} {w : World} {k : Key} {u : Value} (r : RelV (kV k) u) : (mixKind P w).is k u = true := by
  cases k with
  | inl i => obtain ⟨t, e⟩ := (show ∃ t, u = Value.int i t from r); subst e; exact mixKind_int P w i t
  | inr x => obtain ⟨t, e⟩ := (show ∃ t, u = Value.str x t from r); subst e; exact mixKind_str P w x t
theorem items_are {P : Program} {w : World} : ∀ {ks : List Key} {us : List Value}, Vals (ks.map kV) us -> ItemsAre (mixKind P w) ks us
  | [], _, r => by rw [List.map_nil] at r; cases r; exact .nil
  | k :: ks, _, r => by
    rw [List.map_cons] at r
    cases r with
    | cons h t => exact .cons (kV_is h) (items_are t)
abbrev KT (H : Hp) : List (List Key × V) -> List (List Key × Addr × Value) -> Prop := Paired fun p q => p.1 = q.1 /\ H q.2.1 = some (.tup (p.1.map kV)) /\ RelV p.2 q.2.2
theorem KT.val {H : Hp} {kvs : List (List Key × V)} {xs : List (List Key × Addr × Value)} (r : KT H kvs xs) (k : List Key) : RelO (valV kvs k) ((atKey xs k).map (·.2)) := by
  induction r with
  | nil => exact True.intro
  | @cons p q ps qs h t ih =>
    obtain ⟨h1, _, h2⟩ := h
    by_cases e : p.1 = k
    · have e' : q.1 = k := h1.symm.trans e
      have b : atKey (q :: qs) k = some q.2 := by simp [atKey, List.find?_cons, e']
      rw [valV_pos e, b]; exact h2
    · have e' : ¬ q.1 = k := fun z => e (h1.trans z)
      have b : atKey (q :: qs) k = atKey qs k := by simp [atKey, List.find?_cons, e']
      rw [valV_neg e, b]; exact ih
theorem KT.repl {H : Hp} {kvs : List (List Key × V)} {xs : List (List Key × Addr × Value)} (r : KT H kvs xs) (k : List Key) {y : V} {u : Value} (ry : RelV y u) :
    KT H (kvs.map fun kv => if kv.1 = k then (kv.1, y) else kv) (xs.map (putAt k u)) := by
  induction r with
  | nil => exact .nil
  | @cons p q ps qs h t ih =>
    rw [List.map_cons, List.map_cons]
    refine .cons ?_ ih
    obtain ⟨h1, h2, h3⟩ := h
    unfold putAt
    by_cases e : p.1 = k
    · rw [if_pos e, if_pos (h1.symm.trans e)]; exact ⟨h1, h2, ry⟩
    · rw [if_neg e, if_neg (fun z => e (h1.trans z))]; exact ⟨h1, h2, h3⟩
theorem KT.put {H : Hp} {kvs : List (List Key × V)} {xs : List (List Key × Addr × Value)} (r : KT H kvs xs) (k : List Key) {b : Addr} {y : V} {u : Value} (hb : H b = some (.tup (k.map kV))) (ry : RelV y u) :
    KT H (putK kvs k y) (storedH xs k b u) := by
  have e : (kvs.any fun kv => decide (kv.1 = k)) = (atKey xs k).isSome := by
    rw [valV_any, (r.val k).isSome_eq, Option.isSome_map]
  unfold putK storedH
  rw [e]
  by_cases q : (atKey xs k).isSome = true
  · rw [if_pos q, if_pos q]; exact r.repl k ry
  · rw [if_neg q, if_neg q]; exact Paired.snoc r ⟨rfl, hb, ry⟩
theorem KT.keeps {H H' : Hp} {kvs : List (List Key × V)} {xs : List (List Key × Addr × Value)} (r : KT H kvs xs) (ht : ∀ b ys, H b = some (.tup ys) -> H' b = some (.tup ys)) : KT H' kvs xs :=
  Paired.mapP r fun _ _ z => ⟨z.1, ht _ _ z.2.1, z.2.2⟩
section
variable {P : Program} {w : World} {H : Hp} {h : Heap} {a : Addr}
theorem rd_of {u : HO} (ok : HOk P w H h) (e : Rd H a u) : ObjOk P w H h a u := e.ok ok
theorem dk_rd {kvs : List (Key × V)} (ok : HOk P w H h) (e : Rd H a (.dK kvs)) : kvs.length <= sizeLine /\ (a == sysModules) = false /\ ∃ vs, KV kvs vs /\ h.DictOf (mixKind P w) a vs :=
  show ObjOk P w H h a (.dK kvs) from rd_of ok e
theorem dk_of {kvs : List (Key × V)} (ok : HOk P w H h) (e : H a = some (.dK kvs)) : kvs.length <= sizeLine /\ (a == sysModules) = false /\ ∃ vs, KV kvs vs /\ h.DictOf (mixKind P w) a vs := dk_rd ok (.inl e)
theorem key_of {ks : List Key} (ok : HOk P w H h) (e : H a = some (.tup (ks.map kV))) : (tupleKind (mixKind P w)).is h ks a := by
  obtain ⟨_, its, r, o, h1, h2, n, h3⟩ := (show ObjOk P w H h a (.tup (ks.map kV)) from ok a _ e)
  exact ⟨o, its.toArray, n, h1, h2, h3, by simpa using items_are r⟩
theorem dt_rd {kvs : List (List Key × V)} (ok : HOk P w H h) (e : Rd H a (.dT kvs)) : kvs.length <= sizeLine /\ (a == sysModules) = false /\
    ∃ xs, KT H kvs xs /\ h.DictOfH (tupleKind (mixKind P w)) a xs := by
  obtain ⟨z, y, xs, r, o, es, ep, h1, h2, h3, h4, h5⟩ := (show ObjOk P w H h a (.dT kvs) from rd_of ok e)
  refine ⟨z, y, xs, r, o, es, ep, h1, h2, h3, h4, fun x hx => ?_, h5⟩
  have all : ∀ {l : List (List Key × V)} {m : List (List Key × Addr × Value)}, KT H l m -> ∀ x ∈ m, (tupleKind (mixKind P w)).is h x.1 x.2.1 := by
    intro l m q
    induction q with
    | nil => intro x hx; exact nomatch hx
    | @cons p q ps qs hq t ih =>
      intro x hx
      rcases List.mem_cons.mp hx with e | hx
      · subst e
        exact key_of ok (by rw [<- hq.1]; exact hq.2.1)
      · exact ih x hx
  exact all r x hx
theorem dt_of {kvs : List (List Key × V)} (ok : HOk P w H h) (e : H a = some (.dT kvs)) : kvs.length <= sizeLine /\ (a == sysModules) = false /\
    ∃ xs, KT H kvs xs /\ h.DictOfH (tupleKind (mixKind P w)) a xs := dt_rd ok (.inl e)
end
def DGet (H : Hp) (a : Addr) (y : V) (r : Option V) : Prop :=
  (∃ kvs k, Rd H a (.dK kvs) /\ y = kV k /\ r = valV kvs k) \/ ∃ kvs k b, Rd H a (.dT kvs) /\ y = .ref b /\ H b = some (.tup (k.map kV)) /\ r = valV kvs k
def DPut (H : Hp) (a : Addr) (y v : V) (H' : Hp) : Prop :=
  (∃ kvs k, H a = some (.dK kvs) /\ y = kV k /\ kvs.length < sizeLine /\ H' = upd H a (.dK (putK kvs k v))) \/
  ∃ kvs k b, H a = some (.dT kvs) /\ y = .ref b /\ H b = some (.tup (k.map kV)) /\ kvs.length < sizeLine /\ H' = upd H a (.dT (putK kvs k v))
theorem DGet.k {H : Hp} {a : Addr} {kvs : List (Key × V)} {k : Key} (e : H a = some (.dK kvs)) : DGet H a (kV k) (valV kvs k) := .inl ⟨kvs, k, .inl e, rfl, rfl⟩
theorem DGet.t {H : Hp} {a b : Addr} {kvs : List (List Key × V)} {k : List Key} (e : H a = some (.dT kvs)) (eb : H b = some (.tup (k.map kV))) : DGet H a (.ref b) (valV kvs k) := .inr ⟨kvs, k, b, .inl e, rfl, eb, rfl⟩
theorem DPut.t {H : Hp} {a b : Addr} {kvs : List (List Key × V)} {k : List Key} {v : V} (e : H a = some (.dT kvs)) (eb : H b = some (.tup (k.map kV))) (hl : kvs.length < sizeLine) :
    DPut H a (.ref b) v (upd H a (.dT (putK kvs k v))) := .inr ⟨kvs, k, b, e, rfl, eb, hl, rfl⟩
section
variable {X : Cx} {pins : List (Addr × Obj)} {σ : St} {H : Hp} {s : Shared} {a : Addr} {y v : V} {u r : Value} {o : Option V} {A : Around} {E : Value -> Shared -> Prop}
theorem Inv.big (I : Inv X pins σ H s) : sysModules < s.heap.objs.size := by
  have h : mainGlobals < s.heap.objs.size := (I.mod.glob.keeps I.bk).lt
  exact Nat.lt_trans (by decide) h
theorem d_getItem {Q : Value -> Shared -> Prop} (hu : A.units + 1 < cLine) (I : Inv X pins σ H s) (g : DGet H a y (some v)) (ry : RelV y u) (h : ∀ w' s', Inv X pins σ H s' -> RelV v w' -> Q w' s') :
    wpAny (model X.prog X.w) A (getItem (.ref a) u) Q E s := by
  rcases g with ⟨kvs, k, e, ey, l⟩ | ⟨kvs, k, b, e, ey, eb, l⟩
  · subst ey
    obtain ⟨z, hd, vs, rel, dd⟩ := dk_rd I.hok e
    obtain ⟨w', hw, rw'⟩ := RelO.some_of (v := v) (o := valueAt vs k) (by rw [l]; exact rel.val k)
    exact wpAny_getItem_of (kV_is ry) dd.mapOf hw (h w' _ (I.tok _) rw')
  · subst ey
    cases (show u = Value.ref b from ry)
    obtain ⟨z, hd, xs, rel, dd⟩ := dt_rd I.hok e
    obtain ⟨w', hw, rw'⟩ := RelO.some_of (v := v) (o := (atKey xs k).map (·.2)) (by rw [l]; exact rel.val k)
    obtain ⟨p, hp, hp2⟩ := Option.map_eq_some_iff.mp hw
    refine wpAny_getItem_heap (tupleKind_room_in1 hu) (key_of I.hok eb) dd hp ?_
    rw [hp2]
    exact h w' _ (I.tok _) rw'
theorem d_write {h' : Heap} {t' : Nat} {ob : HO} (I : Inv X pins σ H s) (mu : Mut (H a)) (hs : Heap.SameBut a s.heap h') (he : ∃ q, h'.get? a = some q) (new : ObjOk X.prog X.w (upd H a ob) h' a ob) :
    Inv X pins σ (upd H a ob) { s with heap := h', toks := t' } :=
  I.write (x := a) (e := a) mu (.inl rfl) (fun b q hb z => (hs.2 b hb).trans z) he new
theorem dk_new {P : Program} {w : World} {H' : Hp} {h' : Heap} {kvs : List (Key × V)} {vs : List (Key × Value)} (z : kvs.length <= sizeLine) (hd : (a == sysModules) = false) (rel : KV kvs vs) (dd : h'.DictOf (mixKind P w) a vs) :
    ObjOk P w H' h' a (.dK kvs) := ⟨z, hd, vs, rel, dd⟩
theorem d_setItem {H' : Hp} {Q : Unit -> Shared -> Prop} (hu : A.units + 1 < cLine) (I : Inv X pins σ H s) (g : DPut H a y v H') (ry : RelV y u) (rv : RelV v r) (h : ∀ s', Inv X pins σ H' s' -> Q () s') :
    wpAny (model X.prog X.w) A (setItem (.ref a) u r) Q E s := by
  rcases g with ⟨kvs, k, e, ey, l, eH⟩ | ⟨kvs, k, b, e, ey, eb, l, eH⟩
  · subst ey eH
    obtain ⟨z, hd, vs, rel, dd⟩ := dk_of I.hok e
    have hz : vs.length <= sizeLine := by rw [<- rel.length]; exact z
    have hl : (putK kvs k v).length <= sizeLine := by have := length_putK kvs k v; lia
    refine wpAny_setItem_pairs (hsz := hz) (kV_is ry) dd fun h' dd' hs => h _ ?_
    have he : ∃ q, h'.get? a = some q := let ⟨q, _, _, hq, _⟩ := dd'; ⟨q, hq⟩
    exact d_write I (by rw [e]; exact True.intro) hs he (dk_new hl hd (rel.put k rv) dd')
  · subst ey eH
    cases (show u = Value.ref b from ry)
    obtain ⟨z, hd, xs, rel, dd⟩ := dt_of I.hok e
    have hz : xs.length <= sizeLine := by rw [<- Paired.length rel]; exact z
    have hl : (putK kvs k v).length <= sizeLine := by have := length_putK kvs k v; lia
    refine wpAny_setItem_heap (hsz := hz) (tupleKind_room_in1 hu) (key_of I.hok eb) dd fun h' dd' hs => h _ ?_
    obtain ⟨q, es, ep, hq, h2, h3, h4, _, h5⟩ := dd'
    refine d_write I (by rw [e]; exact True.intro) hs ⟨q, hq⟩ ⟨hl, hd, _, (rel.put k eb rv).keeps fun c ys ec => ?_, q, es, ep, hq, h2, h3, h4, h5⟩
    rw [upd_ne (ne_of ec e (fun z => nomatch z))]
    exact ec
end
section
variable {X : Cx} {pins : List (Addr × Obj)} {σ : St} {H : Hp} {s : Shared} {a : Addr} {kvs : List (Key × V)} {k : Key} {u : Value} {A : Around} {E : Value -> Shared -> Prop}
end
def NoSl (i : Expr) : Prop := ∀ ov iv, subscripted i false ov iv = operate [ov, iv] (getItem ov iv)
theorem subD_of {prog : Program} {w : World} {A : Around} {E : Value -> Shared -> Prop} {s : Shared} {env : Env} {value slice : Expr} {pos : Pos} {T id : String} {Q : Value -> Shared -> Prop}
    (hl : typeLookup (.type T) "__getitem__" = pure (some (.builtin id))) (hs : NoSl slice)
    (h : wpAny (model prog w) A (eval value env) (fun o s₁ => wpAny (model prog w) A (eval slice env) (fun i s₂ => s₂.TypeIs o T /\ wpAny (model prog w) A (getItem o i) Q E s₂) E s₁) E s) :
    wpAny (model prog w) A (eval (.Subscript value slice pos) env) Q E s := by
  refine Subscript_ (wpAny_mono h (fun o s₁ h₁ => wpAny_mono h₁ (fun i s₂ h₂ => ?_) fun _ _ x => x) fun _ _ x => x)
  obtain ⟨hT, h₂⟩ := h₂
  unfold subscriptTail
  refine wpAny_bind ?_
  rw [getitemInPython_of_ne hT.not_modules]
  refine wpAny_bind (wpAny_specialOf hT hl ?_)
  have fin : wpAny (model prog w) A (subscripted slice false o i) (fun r s₃ => wpAny (model prog w) A (letTemporaryGo value o r >>= fun _ => pure r) Q E s₃) E s₂ := by
    rw [hs o i]
    exact wpAny_operating (wpAny_mono h₂ (fun r s₃ h₃ => wpAny_bind (wpAny_letTemporaryGo (wpAny_pure h₃))) fun _ _ x => x)
  first
    | exact wpAny_pure (wpAny_bind fin)
    | exact wpAny_bind (wpAny_pure (wpAny_bind fin))
    | exact wpAny_bind fin
theorem dict_typeIs {X : Cx} {pins : List (Addr × Obj)} {σ : St} {H : Hp} {s : Shared} {a : Addr} {y : V} {o : Option V} (I : Inv X pins σ H s) (g : DGet H a y o) : s.TypeIs (.ref a) "dict" := by
  rcases g with ⟨kvs, k, e, _, _⟩ | ⟨kvs, k, b, e, _, _, _⟩
  · obtain ⟨_, _, vs, _, dd⟩ := dk_rd I.hok e
    exact dd.typeIs
  · obtain ⟨_, _, xs, _, dd⟩ := dt_rd I.hok e
    exact dd.typeIs
def tDGet (td ty : TE) : TE := fun σ H Q => td σ H fun x H1 => ty σ H1 fun y H2 => ∃ a v, x = .ref a /\ DGet H2 a y (some v) /\ Q v H2
def sDPut (td ty tv : TE) : TS := fun D σ H => tv σ H fun v H1 => td σ H1 fun x H2 => ty σ H2 fun y H3 => ∃ a H4, x = .ref a /\ DPut H3 a y v H4 /\ D.nx σ H4
section
variable {X : Cx} {o i e value : Expr} {pos pos' tpos : Pos} {td ty tv : TE}
theorem pe_dget (hu : X.A.units + 1 < cLine) (ho : PE X o td) (hi : PE X i ty) (hs : NoSl i) : PE X (.Subscript o i pos) (tDGet td ty) := by
  intro pins s σ H Q I h
  refine subD_of PySem.F.slot_dict_getitem.lookup hs (thn (ho pins s σ H _ I h) fun u s1 ⟨x, H1, I1, rx, q1⟩ => thn (hi pins s1 σ H1 _ I1 q1) fun iv s2 ⟨y, H2, I2, ry, a, v, ex, g, q2⟩ => ?_)
  subst ex
  obtain rfl : u = Value.ref a := rx
  exact ⟨dict_typeIs I2 g, d_getItem hu I2 g ry fun w' s3 I3 rw' => ⟨v, H2, I3, rw', q2⟩⟩
theorem ps_dput (hu : X.A.units + 1 < cLine) (ho : PE X o td) (hi : PE X i ty) (hv : PE X value tv) (hs : swapsWith value (some (.Subscript o i pos')) pos.line X.env = pure false) :
    PS X (.Assign [.Subscript o i pos'] value pos) (sDPut td ty tv) := by
  intro pins s σ H D I h
  refine wpAny_Assign_Subscript (thn (hv pins s σ H _ I h) fun r s1 ⟨v, H1, I1, rv, q1⟩ => thn (ho pins s1 σ H1 _ I1 q1) fun u s2 ⟨x, H2, I2, rx, q2⟩ => thn (hi pins s2 σ H2 _ I2 q2) fun iv s3 ⟨y, H3, I3, ry, a, H4, ex, g, q3⟩ => ?_) hs
  subst ex
  obtain rfl : u = Value.ref a := rx
  exact d_setItem hu I3 g ry rv fun s4 I4 => ⟨σ, H4, I4, q3⟩
end
theorem dk_empty {P : Program} {w : World} {H : Hp} (h : Heap) (hb : sysModules < h.objs.size) : ObjOk P w H (h.push { cls := .type "dict", data := .dict #[] }) h.objs.size (.dK []) :=
  ⟨Nat.zero_le _, beq_eq_false_iff_ne.mpr (Ne.symm (Nat.ne_of_lt hb)), [], .nil, Heap.DictOf.new h⟩
theorem dt_empty {P : Program} {w : World} {H : Hp} (h : Heap) (hb : sysModules < h.objs.size) : ObjOk P w H (h.push { cls := .type "dict", data := .dict #[] }) h.objs.size (.dT []) :=
  ⟨Nat.zero_le _, beq_eq_false_iff_ne.mpr (Ne.symm (Nat.ne_of_lt hb)), [], .nil, _, #[], 0, Heap.get?_push_size _ rfl, ⟨rfl, rfl, rfl⟩, rfl, rfl, List.nodup_nil⟩
def tDNewT : TE := fun _ H Q => ∀ p, H p = none -> Q (.ref p) (upd H p (.dT []))
section
variable {X : Cx} {pos : Pos}
theorem pe_dnewT : PE X (.Dict [] [] pos) tDNewT := fun pins s σ H Q I h =>
  wpAny_Dict_empty ⟨.ref s.heap.objs.size, _, I.laid (a := s.heap.objs.size) (o := .dT []) (t' := s.toks) (fun _ _ q => Heap.get?_push_of_some _ q) (Nat.le_refl _) (dt_empty s.heap I.big), rfl, h _ (I.hok.fresh (Nat.le_refl _))⟩
end
def tPairs : List (TE × TE) -> St -> Hp -> (List (V × V) -> Hp -> Prop) -> Prop
  | [], _, H, Q => Q [] H
  | (tk, tv) :: r, σ, H, Q => tk σ H fun x H1 => tv σ H1 fun y H2 => tPairs r σ H2 fun ps H3 => Q ((x, y) :: ps) H3
abbrev VV : List (V × V) -> List (Value × Value) -> Prop := Paired fun p q => RelV p.1 q.1 /\ RelV p.2 q.2
def PPs (X : Cx) (pos : Pos) (keys : List (Option Expr)) (values : List Expr) (trs : List (TE × TE)) : Prop :=
  ∀ (pins : List (Addr × Obj)) (s : Shared) (σ : St) (H : Hp) (Q : List (V × V) -> Hp -> Prop), Inv X pins σ H s -> tPairs trs σ H Q ->
    wpAny (model X.prog X.w) X.A (evalPairs (pairTrees keys values X.env pos)) (fun vs s' => ∃ ps H', Inv X pins σ H' s' /\ VV ps vs /\ Q ps H') X.xe s
theorem pps_nil {X : Cx} {pos : Pos} : PPs X pos [] [] [] := fun pins s σ H Q I h => pairTrees_nil_walk ⟨[], H, I, .nil, h⟩
theorem pps_cons {X : Cx} {pos : Pos} {k v : Expr} {ks : List (Option Expr)} {vs : List Expr} {tk tv : TE} {trs : List (TE × TE)} (hk : PE X k tk) (hv : PE X v tv) (hr : PPs X pos ks vs trs) :
    PPs X pos (some k :: ks) (v :: vs) ((tk, tv) :: trs) := fun pins s σ H Q I h =>
  pairTrees_cons_walk (thn (hk pins s σ H _ I h) fun u s1 ⟨x, H1, I1, rx, q1⟩ => thn (hv pins s1 σ H1 _ I1 q1) fun w2 s2 ⟨y, H2, I2, ry, q2⟩ =>
    thn (hr pins s2 σ H2 _ I2 q2) fun ws s3 ⟨ps, H3, I3, rel, q3⟩ => ⟨(x, y) :: ps, H3, I3, .cons ⟨rx, ry⟩ rel, q3⟩)
def mergeK (kvs more : List (Key × V)) : List (Key × V) := more.foldl (fun acc kv => putK acc kv.1 kv.2) kvs
theorem KV.merge : ∀ {more : List (Key × V)} {rs : List (Key × Value)} {kvs : List (Key × V)} {vs : List (Key × Value)}, KV more rs -> KV kvs vs -> KV (mergeK kvs more) (merged vs rs) := by
  intro more rs kvs vs r
  unfold KV at r
  induction r generalizing kvs vs with
  | nil => intro q; exact q
  | @cons p q ps qs h t ih =>
    intro r0
    have e : KV (putK kvs p.1 p.2) (stored vs q.1 q.2) := by
      have := r0.put p.1 h.2
      rw [<- h.1]; exact this
    exact ih e
theorem length_mergeK : ∀ (more kvs : List (Key × V)), (mergeK kvs more).length <= kvs.length + more.length
  | [], kvs => by show kvs.length <= kvs.length + 0; lia
  | p :: r, kvs => by
    have h1 := length_mergeK r (putK kvs p.1 p.2)
    have h2 := length_putK kvs p.1 p.2
    show (mergeK (putK kvs p.1 p.2) r).length <= _
    rw [List.length_cons]; lia
theorem carries_of {P : Program} {w : World} : ∀ {kvs : List (Key × V)} {ws : List (Value × Value)}, VV (kvs.map fun kv => (kV kv.1, kv.2)) ws -> ∃ rs, Carries (mixKind P w) ws rs /\ KV kvs rs
  | [], _, r => by rw [List.map_nil] at r; cases r; exact ⟨[], True.intro, .nil⟩
  | p :: kvs, _, r => by
    rw [List.map_cons] at r
    cases r with
    | @cons a b as bs h t =>
      obtain ⟨rs, c, q⟩ := carries_of (P := P) (w := w) t
      obtain ⟨b1, b2⟩ := b
      exact ⟨(p.1, b2) :: rs, ⟨kV_is h.1, rfl, c⟩, .cons ⟨rfl, h.2⟩ q⟩
def tDisp (trs : List (TE × TE)) : TE := fun σ H Q => ∀ p, H p = none -> tPairs trs σ (upd H p (.dK [])) fun ps H2 => H2 p = some (.dK []) /\ ∃ kvs : List (Key × V), ps = kvs.map (fun kv => (kV kv.1, kv.2)) /\ kvs.length <= 15 /\ Q (.ref p) (upd H2 p (.dK (mergeK [] kvs)))
theorem pe_disp {X : Cx} {pos : Pos} {keys : List (Option Expr)} {values : List Expr} {trs : List (TE × TE)} (h : PPs X pos keys values trs) (hall : keys.all (·.isSome) = true) (hl : keys.length = values.length) (h0 : keys ≠ [])
    (h15 : keys.length <= 15) : PE X (.Dict keys values pos) (tDisp trs) := by
  intro pins s σ H Q I q
  have hn := I.hok.fresh (Nat.le_refl s.heap.objs.size)
  have I1 := I.laid (a := s.heap.objs.size) (o := .dK []) (h' := s.heap.push { cls := .type "dict", data := .dict #[] }) (t' := s.toks) (fun _ _ q => Heap.get?_push_of_some _ q) (Nat.le_refl _) (dk_empty s.heap I.big)
  refine wpAny_Dict_walk (knd := mixKind X.prog X.w) hall hl h0 h15 (thn (h pins _ σ _ _ I1 (q _ hn)) fun ws s2 ⟨ps, H2, I2, rel, e, kvs, ep, lk, q2⟩ => ?_)
  subst ep
  obtain ⟨rs, c, rk⟩ := carries_of (P := X.prog) (w := X.w) rel
  obtain ⟨z, hd, vs0, r0, dd⟩ := dk_of I2.hok e
  cases r0
  refine ⟨rs, c, dd, fun h' dd' hs => ⟨.ref s.heap.objs.size, _, ?_, rfl, q2⟩⟩
  have hz : (mergeK [] kvs).length <= sizeLine := by
    have h1 := length_mergeK kvs []
    rw [List.length_nil] at h1
    rw [sizeLine_eq]; lia
  have he : ∃ q, h'.get? s.heap.objs.size = some q := let ⟨q, _, _, hq, _⟩ := dd'; ⟨q, hq⟩
  exact d_write I2 (by rw [e]; exact True.intro) hs he (dk_new hz hd (rk.merge .nil) dd')
structure M2 (X : Cx) (o : Expr) (m : Str) (apos : Pos) (e f : Expr) (cpos : Pos) : Prop where
  base : attributeBase o m X.env (eval o X.env) = eval o X.env
  few : ((backTo cpos (starEach [e, f] X.env)).all (fun x => !x.1) && (backToKw cpos (keywordEach [] X.env)).all (fun x => x.1.isSome)
    && decide (([e, f] : List Expr).length + ([] : List Keyword).length + (if ([] : List Keyword).isEmpty then 0 else 1) < 30)) = true
  line : (apos.endLine == cpos.line) = true
  trees : backTo cpos (starEach [e, f] X.env) = [(false, eval e X.env), (false, eval f X.env)]
def IsD (H : Hp) (a : Addr) : Prop := (∃ kvs, Rd H a (.dK kvs)) \/ ∃ kvs, Rd H a (.dT kvs)
theorem isD_at {X : Cx} {pins : List (Addr × Obj)} {σ : St} {H : Hp} {s : Shared} {a : Addr} (I : Inv X pins σ H s) (d : IsD H a) :
    s.TypeIs (.ref a) "dict" /\ (∀ b, Value.ref a = .ref b -> ∃ ob, s.heap.get? b = some ob /\ ob.dict = none) /\ (a == sysModules) = false := by
  rcases d with ⟨kvs, e⟩ | ⟨kvs, e⟩
  · obtain ⟨_, hd, vs, _, dd⟩ := dk_rd I.hok e
    refine ⟨dd.typeIs, fun b q => ?_, hd⟩
    cases q
    obtain ⟨ob, _, _, h1, h2, _⟩ := dd
    exact ⟨ob, h1, h2.2.1⟩
  · obtain ⟨_, hd, xs, _, dd⟩ := dt_rd I.hok e
    refine ⟨dd.typeIs, fun b q => ?_, hd⟩
    cases q
    obtain ⟨ob, _, _, h1, h2, _⟩ := dd
    exact ⟨ob, h1, h2.2.1⟩
section
variable {X : Cx} {pins : List (Addr × Obj)} {σ : St} {H : Hp} {s : Shared} {a : Addr} {y d : V} {u r : Value} {o : Option V} {A : Around} {E : Value -> Shared -> Prop}
theorem d_get2 {Q : Value -> Shared -> Prop} (hu : A.units + 1 < cLine) (I : Inv X pins σ H s) (g : DGet H a y o) (ry : RelV y u) (rd : RelV d r) (h : ∀ w' s', Inv X pins σ H s' -> RelV (o.getD d) w' -> Q w' s') :
    wpAny (model X.prog X.w) A (call (.builtin "dict.get") [.ref a, u, r]) Q E s := by
  rcases g with ⟨kvs, k, e, ey, l⟩ | ⟨kvs, k, b, e, ey, eb, l⟩
  · subst ey
    obtain ⟨z, hd, vs, rel, dd⟩ := dk_rd I.hok e
    refine call_meetsIn PySem.F.slot_dict_get dd.typeIs PySem.F.entry_dict_get (PySem.F.args_dict_get_3 _ _ _) (meets_dict_get_default (mixKind X.prog X.w) a (kV_is ry) hd r) ⟨_, dd.mapOf, h _ _ (I.tok _) ?_⟩
    rw [l]
    exact (rel.val k).getD rd
  · subst ey
    cases (show u = Value.ref b from ry)
    obtain ⟨z, hd, xs, rel, dd⟩ := dt_rd I.hok e
    refine call_meetsIn PySem.F.slot_dict_get dd.typeIs PySem.F.entry_dict_get (PySem.F.args_dict_get_3 _ _ _) (meetsH_dict_get_default (tupleKind (mixKind X.prog X.w)) a b hd r) ⟨tupleKind_room_in1 hu, k, xs, key_of I.hok eb, dd, h _ _ (I.tok _) ?_⟩
    rw [l]
    exact (rel.val k).getD rd
end
def tDGet2 (td ty tx : TE) : TE := fun σ H Q => td σ H fun x H1 => ∃ a, x = .ref a /\ IsD H1 a /\ ty σ H1 fun y H2 => tx σ H2 fun z H3 => ∃ o, DGet H3 a y o /\ Q (o.getD z) H3
section
variable {X : Cx} {o e f : Expr} {apos cpos : Pos} {td ty tx : TE}
theorem pe_dget2 (hu : X.A.units + 1 < cLine) (ho : PE X o td) (he : PE X e ty) (hf : PE X f tx) (m : M2 X o "get" apos e f cpos) : PE X (.Call (.Attribute o "get" apos) [e, f] [] cpos) (tDGet2 td ty tx) := by
  intro pins s σ H Q I h
  refine wpAny_Call_method m.base m.few m.line PySem.F.plainAttrs_dict PySem.F.slot_dict_get PySem.F.type_dict_get (thn (ho pins s σ H _ I h) fun u s1 ⟨x, H1, I1, rx, a, ex, d, q1⟩ => ?_)
  subst ex
  obtain rfl : u = Value.ref a := rx
  obtain ⟨t1, t2, _⟩ := isD_at I1 d
  refine ⟨t1, t2, ?_⟩
  rw [m.trees]
  refine Calls.callWith_builtin rfl (Calls.evalArgs_plain (Calls.spliced_cons (thn (he pins s1 σ H1 _ I1 q1) fun iv s2 ⟨y, H2, I2, ry, q2⟩ =>
    Calls.spliced_cons (thn (hf pins s2 σ H2 _ I2 q2) fun fv s3 ⟨z, H3, I3, rz, ov, g, q3⟩ => Calls.spliced_nil ?_))))
  exact d_get2 hu I3 g ry rz fun w' s4 I4 rw' => ⟨_, H3, I4, rw', q3⟩
end
section
variable {X : Cx} {pins : List (Addr × Obj)} {σ : St} {H : Hp} {s : Shared} {a : Addr} {kvs : List (Key × V)} {A : Around} {E : Value -> Shared -> Prop}
end
section
variable {X : Cx} {pins : List (Addr × Obj)} {σ : St} {H : Hp} {s : Shared} {a : Addr} {y : V} {u : Value} {A : Around} {E : Value -> Shared -> Prop}
end
section
variable {prog : Program} {w : World} {A : Around} {E : Value -> Shared -> Prop} {s : Shared} {it d v : Addr} {i ep : Nat} {es : Array DictEntry} {o : Obj}
theorem items_call {Q : Value -> Shared -> Prop} (hs : (d == sysModules) = false) (ho : s.heap.get? d = some o) (hx : o.ExactDict)
    (q : Q (.ref s.heap.objs.size) { s with heap := s.heap.push { cls := .type "dict_items", data := .fields #[.ref d] } }) : wpAny (model prog w) A (call (.builtin "dict.items") [.ref d]) Q E s := by
  have ty : s.TypeIs (.ref d) "dict" := ⟨o, ho, hx.1⟩
  refine wpAny_call_entry F.slot_dict_items ty F.entry_dict_items ?_ (F.args_dict_items_1 _)
  unfold Builtin.«dict.items»
  refine wpAny_bind ?_
  unfold Builtin.Dict.noArgs
  refine wpAny_bind (wpAny_notOrdered_dict ty ?_)
  show wpAny _ _ (pure d) _ _ s
  refine wpAny_pure ?_
  show wpAny _ _ (Builtin.Dict.showsAll d >>= _) _ _ s
  unfold Builtin.Dict.showsAll
  rw [if_neg (by rw [hs]; exact Bool.false_ne_true)]
  exact wpAny_bind (wpAny_pure (wpAny_bind (wpAny_newObj_type (wpAny_pure ⟨_, rfl, q⟩))))
theorem items_iter {Q : Value -> Shared -> Prop} (hv : s.heap.IsItemsView v d) (ho : s.heap.get? d = some o) (hd : o.data = .dict es ep)
    (q : Q (.ref s.heap.objs.size) { s with heap := s.heap.push { cls := .type "dict_itemiterator", data := .fields #[.none, .bool false, .ref d, .int 0 0, .int es.size 0, .int ep 0, .none, .none] } }) :
    wpAny (model prog w) A (pyIter (.ref v)) Q E s := by
  obtain ⟨ov, h1, h2, h3⟩ := id hv
  refine wpAny_pyIter_slot hv.typeIs F.slot_dict_items_iter (wpAny_call_entry F.slot_dict_items_iter hv.typeIs F.entry_dict_items_iter ?_ (F.args_dict_items_iter_1 _))
  unfold Builtin.«dict_items.__iter__»
  refine wpAny_bind (wpAny_pure (wpAny_bind ?_))
  unfold Builtin.Dict_items.dictOf
  refine wpAny_bind (wpAny_field h1 h3 (x := .ref d) rfl (wpAny_pure (wpAny_bind ?_)))
  unfold Builtin.Dict_items.newIterator
  refine wpAny_bind (wpAny_dictEntries ho hd (wpAny_bind (wpAny_dictEpoch ho hd ?_)))
  simp only [show Builtin.Dict_items.ownsTuple "dict_itemiterator" = true from by decide, if_true]
  refine wpAny_newObj_type (wpAny_pure ⟨_, rfl, "dict_itemiterator", _, ⟨_, Heap.get?_push_size _ rfl, rfl⟩, F.slot_dict_itemiterator_next.lookup, ?_⟩) (by simp only [sizeOk, Builtin.Dict_items.ownedTupleFields, List.size_toArray, List.length_append, List.length_cons, List.length_nil, sizeLine_eq]; lia)
  simpa [rawInt, Builtin.Dict_items.ownedTupleFields] using q
theorem items_next {e : DictEntry} {ok ov : Value} {Q : Option Value -> Shared -> Prop} (hit : IsItemIter s.heap it d i es.size ep ok ov) (ho : s.heap.get? d = some o) (hd : o.data = .dict es ep) (hx : es[i]? = some e)
    (q : ∀ h', IsItemIterOut h' it d (i + 1) es.size ep e.key e.val s.heap.objs.size -> h'.get? s.heap.objs.size = some { cls := .type "tuple", data := .seq #[e.key, e.val] } ->
      (∀ b o, b ≠ it -> s.heap.get? b = some o -> h'.get? b = some o) -> Q (some (.ref s.heap.objs.size)) { s with heap := h' }) : wpAny (model prog w) A (pyNext (.ref it)) Q E s := by
  obtain ⟨hp, g, dr, tk, os⟩ := s
  have ty : Shared.TypeIs ⟨hp, g, dr, tk, os⟩ (.ref it) "dict_itemiterator" := ⟨_, hit, rfl⟩
  unfold pyNext
  refine wpAny_bind (wpAny_attempt (wpAny_callSpecial?_slot (name := Str.ofString "__next__") ty F.slot_dict_itemiterator_next (wpAny_call_entry F.slot_dict_itemiterator_next ty F.entry_dict_itemiterator_next ?_ (F.args_dict_itemiterator_next_1 _))))
  refine wpAny_bind (wpAny_pure (wpAny_bind (wpAny_bind (wpAny_bind (wpAny_typeNameOfWhole_itemiter ty (wpAny_pure (wpAny_bind (wpAny_fieldsOf hit rfl ?_))))))))
  simp only [show Builtin.Dict_items.ownsTuple "dict_itemiterator" = true from by decide, if_true]
  show wpAny _ _ (if (Value.ref d == Value.none) = true then _ else _) _ _ _
  rw [if_neg (show ¬ (Value.ref d == Value.none) = true from Bool.false_ne_true)]
  refine wpAny_bind (wpAny_pure (wpAny_bind (wpAny_dictEntries ho hd ?_)))
  rw [if_neg (by simp)]
  refine wpAny_bind (wpAny_pure (wpAny_bind (wpAny_dictEpoch ho hd ?_)))
  rw [if_neg (by simp)]
  refine wpAny_pure ?_
  simp only [show ¬ ((i : Int) < 0) from by lia, if_false, Int.toNat_natCast, hx]
  refine wpAny_bind (wpAny_bind (wpAny_typeNameOfWhole_itemiter ty (wpAny_pure (wpAny_bind (wpAny_isOneOf_itemiter ty ?_)))))
  show wpAny _ _ (setField (.ref it) 3 (rawInt ((i : Int) + 1)) >>= _) _ _ ⟨hp, g, dr, tk, os⟩
  refine wpAny_bind (wpAny_setField_rec hit (by simp) fun g1 e1 b1 => ?_)
  replace b1 : Heap.SameBut it hp g1 := b1
  replace e1 : IsItemIter g1 it d (i + 1) es.size ep ok ov := by
    unfold IsItemIter
    rw [show ((i + 1 : Nat) : Int) = (i : Int) + 1 by lia]
    simpa [rawInt] using e1
  have ty1 : Shared.TypeIs ⟨g1, g, dr, tk, os⟩ (.ref it) "dict_itemiterator" := ⟨_, e1, rfl⟩
  refine wpAny_bind (wpAny_holding (wpAny_bind (wpAny_isOneOf_itemiter ty1 (wpAny_bind (wpAny_isOneOf_itemiter ty1 ?_)))))
  show wpAny _ _ (Builtin.Dict_items.pairFromOwner (.ref it) 6 e.key e.val) _ _ ⟨g1, g, dr, tk, os⟩
  unfold Builtin.Dict_items.pairFromOwner
  refine wpAny_bind (wpAny_newTuple ?_)
  have e2 : IsItemIter (g1.push { cls := .type "tuple", data := .seq #[e.key, e.val] }) it d (i + 1) es.size ep ok ov := Heap.get?_push_of_some _ e1
  have z1 : g1.objs.size = hp.objs.size := b1.1
  have il : it < hp.objs.size := Heap.lt_size hit
  have t2 : (g1.push { cls := .type "tuple", data := .seq #[e.key, e.val] }).get? hp.objs.size = some { cls := .type "tuple", data := .seq #[e.key, e.val] } := by rw [<- z1]; exact Heap.get?_push_size _ rfl
  have k2 : ∀ b o, b ≠ it -> hp.get? b = some o -> (g1.push { cls := .type "tuple", data := .seq #[e.key, e.val] }).get? b = some o := fun b o hb z => Heap.get?_push_of_some _ (b1.extBut b o hb z)
  show wpAny _ _ (Builtin.Dict_items.ownedTupleIsFree (.ref it) >>= _) _ _ ⟨g1.push { cls := .type "tuple", data := .seq #[e.key, e.val] }, g, dr, tk, os⟩
  rw [z1]
  generalize g1.push { cls := .type "tuple", data := .seq #[e.key, e.val] } = g2 at e2 t2 k2
  refine wpAny_bind ?_
  unfold Builtin.Dict_items.ownedTupleIsFree
  refine wpAny_bind (wpAny_field e2 rfl (x := Value.none) rfl (wpAny_pure ?_))
  simp only [if_true]
  refine wpAny_bind (wpAny_field e2 rfl (x := ok) rfl (wpAny_bind (wpAny_field e2 rfl (x := ov) rfl (wpAny_bind (wpAny_setField_rec e2 (by simp) fun g3 e3 b3 => ?_)))))
  replace b3 : Heap.SameBut it g2 g3 := b3
  replace e3 : IsItemIter g3 it d (i + 1) es.size ep e.key ov := e3
  refine wpAny_bind (wpAny_setField_rec e3 (by simp) fun g4 e4 b4 => ?_)
  replace b4 : Heap.SameBut it g3 g4 := b4
  replace e4 : IsItemIter g4 it d (i + 1) es.size ep e.key e.val := e4
  refine wpAny_bind (wpAny_setField_rec e4 (by simp) fun g5 e5 b5 => ?_)
  replace b5 : Heap.SameBut it g4 g5 := b5
  replace e5 : IsItemIterOut g5 it d (i + 1) es.size ep e.key e.val hp.objs.size := e5
  refine wpAny_bind (wpAny_setField_rec e5 (by simp) fun g6 e6 b6 => ?_)
  replace b6 : Heap.SameBut it g5 g6 := b6
  replace e6 : IsItemIterOut g6 it d (i + 1) es.size ep e.key e.val hp.objs.size := e6
  have up : ∀ b o, b ≠ it -> g2.get? b = some o -> g6.get? b = some o := fun b o hb z => b6.extBut b o hb (b5.extBut b o hb (b4.extBut b o hb (b3.extBut b o hb z)))
  exact wpAny_bind (wpAny_letGo (wpAny_pure (wpAny_pure ⟨_, rfl, wpAny_pure (q g6 e6 (up _ _ (Nat.ne_of_gt il) t2) fun b o hb z => up b o hb (k2 b o hb z))⟩)))
theorem items_end {ok ov : Value} {Q : Option Value -> Shared -> Prop} (hh : A.handled = none) (hit : IsItemIter s.heap it d i es.size ep ok ov) (ho : s.heap.get? d = some o) (hd : o.data = .dict es ep) (hx : es.size <= i)
    (q : ∀ h', Heap.ExtBut it s.heap h' -> Q none { s with heap := h' }) : wpAny (model prog w) A (pyNext (.ref it)) Q E s := by
  have ty : s.TypeIs (.ref it) "dict_itemiterator" := ⟨_, hit, rfl⟩
  unfold pyNext
  refine wpAny_bind (wpAny_attempt (wpAny_callSpecial?_slot (name := Str.ofString "__next__") ty F.slot_dict_itemiterator_next (wpAny_call_entry F.slot_dict_itemiterator_next ty F.entry_dict_itemiterator_next ?_ (F.args_dict_itemiterator_next_1 _))))
  refine wpAny_bind (wpAny_pure (wpAny_bind (wpAny_bind (wpAny_bind (wpAny_typeNameOfWhole_itemiter ty (wpAny_pure (wpAny_bind (wpAny_fieldsOf hit rfl ?_))))))))
  simp only [show Builtin.Dict_items.ownsTuple "dict_itemiterator" = true from by decide, if_true]
  show wpAny _ _ (if (Value.ref d == Value.none) = true then _ else _) _ _ s
  rw [if_neg (show ¬ (Value.ref d == Value.none) = true from Bool.false_ne_true)]
  refine wpAny_bind (wpAny_pure (wpAny_bind (wpAny_dictEntries ho hd ?_)))
  rw [if_neg (by simp)]
  refine wpAny_bind (wpAny_pure (wpAny_bind (wpAny_dictEpoch ho hd ?_)))
  rw [if_neg (by simp)]
  refine wpAny_pure ?_
  simp only [show ¬ ((i : Int) < 0) from by lia, if_false, Int.toNat_natCast, Array.getElem?_eq_none hx]
  refine wpAny_bind (wpAny_bind (wpAny_typeNameOfWhole_itemiter ty (wpAny_pure ?_)))
  show wpAny _ _ (setField (.ref it) 2 .none >>= _) _ _ s
  refine wpAny_bind (wpAny_setField hit rfl (by simp) ?_)
  show wpAny _ _ (newExc (.type "StopIteration") [] >>= _) _ _ _
  refine wpAny_bind ?_
  simp only [newExc, newTuple]
  refine wpAny_bind (wpAny_newObj_type (wpAny_bind (m := firstArgMember _ _) (wpAny_of_eq (a := Value.none) (by first | rfl | (simp only [firstArgMember]; rfl)) (wpAny_newObj_type ?_ (by size_fits)))) (by size_fits))
  simp only [raiseNew]
  refine wpAny_bind (wpAny_handled ?_)
  rw [show A.in1.handled = none from hh]
  refine wpAny_bind (wpAny_pure (wpAny_throw ?_))
  exact wpAny_bind (wpAny_isInstance (T := "StopIteration") (b := true) ⟨_, Heap.get?_push_size _ rfl, rfl⟩ isSubtype_stop (wpAny_pure (q _ (((Heap.SameBut.update ..).extBut.push _).push _))))
end
abbrev TTab := List (List Key × V)
section
variable {X : Cx} {pins : List (Addr × Obj)} {σ : St} {H : Hp} {s : Shared} {d : Addr} {kvs : TTab}
theorem KT.at {H : Hp} : ∀ {kvs : TTab} {xs : List (List Key × Addr × Value)} {i : Nat} {k : List Key} {v : V}, KT H kvs xs -> kvs[i]? = some (k, v) -> ∃ b u, xs[i]? = some (k, b, u) /\ H b = some (.tup (k.map kV)) /\ RelV v u
  | _, _, _, _, _, .nil, e => by simp at e
  | _, _, 0, k, v, .cons (a := p) (b := q) r _, e => by
    simp at e
    subst e
    obtain ⟨r1, r2, r3⟩ := r
    obtain ⟨q1, q2, q3⟩ := q
    cases (show k = q1 from r1)
    exact ⟨q2, q3, by simp, r2, r3⟩
  | _, _, i + 1, k, v, .cons _ t, e => by
    obtain ⟨b, u, h1, h2⟩ := KT.at (i := i) t (by simpa using e)
    exact ⟨b, u, by simpa using h1, h2⟩
theorem frz_raw {o : Obj} (I : Inv X pins σ H s) (h : H d = some (.frz o (.dT kvs))) : s.heap.get? d = some o /\ ∃ xs es ep, KT H kvs xs /\ o.ExactDict /\ o.data = .dict es ep /\ es.toList = xs.map (entryOfKey (tupleKind (mixKind X.prog X.w))) := by
  obtain ⟨g, z, y, xs, r, o', es, ep, g', h1, h2, h3, _⟩ := I.hok d _ h
  rw [g] at g'
  cases g'
  exact ⟨g, xs, es, ep, r, h1, h2, h3⟩
theorem frz_at {o : Obj} {es : Array DictEntry} {ep : Nat} (I : Inv X pins σ H s) (h : H d = some (.frz o (.dT kvs))) (hd : o.data = .dict es ep) {i : Nat} {k : List Key} {v : V} (e : kvs[i]? = some (k, v)) :
    ∃ en b, es[i]? = some en /\ en.key = .ref b /\ H b = some (.tup (k.map kV)) /\ RelV v en.val := by
  obtain ⟨g, xs, es', ep', r, h1, h2, h3⟩ := frz_raw I h
  rw [hd] at h2
  cases h2
  obtain ⟨b, u, e1, e2, e3⟩ := KT.at r e
  have e4 : es.toList[i]? = some (entryOfKey (tupleKind (mixKind X.prog X.w)) (k, b, u)) := by rw [h3, List.getElem?_map, e1]; rfl
  exact ⟨_, b, by rw [Array.getElem?_toList] at e4; exact e4, rfl, e2, e3⟩
theorem Inv.freeze (I : Inv X pins σ H s) (h : H d = some (.dT kvs)) : ∃ o es ep, s.heap.get? d = some o /\ o.ExactDict /\ o.data = .dict es ep /\ (d == sysModules) = false /\ es.size = kvs.length /\ Inv X pins σ (upd H d (.frz o (.dT kvs))) s := by
  obtain ⟨z, y, xs, r, o, es, ep, g, h1, h2, h3, h4⟩ := I.hok d _ h
  refine ⟨o, es, ep, g, h1, h2, y, ?_, ?_⟩
  · have := congrArg List.length h3
    rw [List.length_map, <- Paired.length r] at this
    simpa using this
  · refine I.write (x := d) (e := d) (h' := s.heap) (t' := s.toks) (by rw [h]; exact True.intro) (.inl rfl) (fun _ _ _ q => q) ⟨o, g⟩ ⟨g, z, y, xs, KT.keeps r fun c ys ec => ?_, o, es, ep, g, h1, h2, h3, h4⟩
    rw [upd_ne (ne_of ec h (fun z => nomatch z))]
    exact ec
end
def viewO (v d : Addr) : HO := .ext fun h => h.IsItemsView v d
section
variable {X : Cx}
def rItems : V -> List V -> Hp -> VK -> Prop := fun x xs H Q => ∃ d kvs, x = .ref d /\ xs = [] /\ H d = some (.dT kvs) /\ ∀ v, H v = none -> Q (.ref v) (upd H v (viewO v d))
theorem mt_items : MtR X "dict.items" rItems := by
  intro pins s σ H x xs v us Q I rx r h
  obtain ⟨d, kvs, rfl, rfl, hd, q⟩ := h
  cases (show v = Value.ref d from rx)
  cases Vals.zero r
  obtain ⟨z, y, ys, rr, o, es, ep, g, h1, h2, h3, h4⟩ := I.hok d _ hd
  refine items_call y g h1 ⟨.ref s.heap.objs.size, _, I.laid (t' := s.toks) (o := viewO s.heap.objs.size d) (fun b ob q => Heap.get?_push_of_some _ q) (Nat.le_refl _) ?_, rfl, q _ (I.hok.fresh (Nat.le_refl _))⟩
  exact ⟨⟨_, Heap.get?_push_size _ rfl, rfl, rfl⟩, ⟨_, Heap.get?_push_size _ rfl⟩, fun h1 h2 p k => let ⟨u, e, r⟩ := p; ⟨u, k _ e, r⟩⟩
end
def ItDI (d : Addr) (o : Obj) (kvs : TTab) : It :=
  ⟨fun i H => H d = some (.frz o (.dT kvs)) /\ i < kvs.length, fun i H x H' => ∃ T b k v, x = .ref T /\ H T = none /\ kvs[i]? = some (k, v) /\ H b = some (.tup (k.map kV)) /\ H' = upd H T (.tup [.ref b, v]), fun i H => H d = some (.frz o (.dT kvs)) /\ kvs.length <= i⟩
theorem turn_di {P : Program} {w : World} {K : PySem.W.Frag} {elts : List Expr} {x1 : Nat} {tpos : Pos} (d it : Addr) (o : Obj) (es : Array DictEntry) (ep : Nat) (kvs : TTab) (hd : o.data = .dict es ep) (hn : es.size = kvs.length) :
    Turn P w K (.Tuple elts x1 tpos) (ItDI d o kvs) [it] it (fun i h => ∃ ok ov, IsItemIter h it d i es.size ep ok ov) where
  mem := by simp
  obj := fun i h st b hb => by
    have e : b = it := by simpa using hb
    subst e
    obtain ⟨_, _, e⟩ := st
    exact ⟨_, e, fun v z => by cases z⟩
  keep := fun i h h' st k => let ⟨ok, ov, e⟩ := st; ⟨ok, ov, k it (by simp) _ e⟩
  item := by
    intro X hP hw hK hc i pins s σ H E I hf st hg
    subst hP hw hK
    obtain ⟨hq, hi⟩ := hg
    obtain ⟨ok, ov, st⟩ := st
    obtain ⟨g, _⟩ := frz_raw I hq
    obtain ⟨⟨k, v⟩, ek⟩ : ∃ p, kvs[i]? = some p := ⟨kvs[i], by simp [hi]⟩
    obtain ⟨en, b, e1, e2, e3, e4⟩ := frz_at I hq hd ek
    refine items_next st g hd e1 fun h' a1 a2 a3 => ⟨_, rfl, ?_⟩
    refine wpAny_letOwnedTupleGo_items (s := { s with heap := h' }) a1 fun h2 b1 b2 => ?_
    replace b2 : Heap.SameBut it h' h2 := b2
    have el : it < s.heap.objs.size := Heap.lt_size st
    have kk : ∀ b o, b ∉ [it] -> s.heap.get? b = some o -> h2.get? b = some o := fun b o hb q => by
      simp at hb
      exact b2.extBut b o hb (a3 b o hb q)
    have tt : h2.get? s.heap.objs.size = some { cls := .type "tuple", data := .seq #[en.key, en.val] } := b2.extBut _ _ (Nat.ne_of_gt el) a2
    have fr : H s.heap.objs.size = none := I.hok.fresh (Nat.le_refl _)
    refine ⟨.ref s.heap.objs.size, upd H s.heap.objs.size (.tup [.ref b, v]), I.turnNew (t' := s.toks) hf kk (Nat.le_refl _) ?_, rfl, ⟨_, b, k, v, rfl, fr, ek, e3, rfl⟩, ⟨_, _, b1⟩, fun c hc => ?_⟩
    · exact ⟨by show 2 <= sizeLine; decide, [en.key, en.val], .cons e2 (.cons e4 .nil), ⟨_, tt, rfl, 0, rfl⟩⟩
    · rw [upd_ne]
      · exact (hf c hc).1
      · rw [List.mem_singleton.mp hc]
        exact Nat.ne_of_lt el
  done := by
    intro X hP hw hK hc i pins s σ H E I hf st hg
    subst hP hw hK
    obtain ⟨hq, hi⟩ := hg
    obtain ⟨ok, ov, st⟩ := st
    obtain ⟨g, _⟩ := frz_raw I hq
    exact items_end (I.ok.hd hc) st g hd (by lia) fun h' q => ⟨rfl, I.turnM (t' := s.toks) hf fun b o hb z => q b o (fun y => hb (by simp [y])) z⟩
  self := fun _ _ _ _ _ st h => let ⟨_, _, he⟩ := st; PySem.W.kcp_self he h
def iDI (tv : TE) : TI := fun σ H R => tv σ H fun x H1 => ∃ v d kvs, x = .ref v /\ H1 v = some (viewO v d) /\ H1 d = some (.dT kvs) /\ ∀ o, R (ItDI d o kvs) (upd H1 d (.frz o (.dT kvs)))
theorem pi_ditems {X : Cx} {elts : List Expr} {x1 : Nat} {tpos : Pos} {l : Expr} {tl : TE} (hl : PE X l tl) : PI X (.Tuple elts x1 tpos) l (iDI tl) := by
  intro pins s σ H R I h
  refine thn (hl pins s σ H _ I h) fun u s1 ⟨x, H1, I1, r1, q1⟩ => ?_
  obtain ⟨v, d, kvs, rfl, hv, hq, q⟩ := q1
  cases (show u = Value.ref v from r1)
  obtain ⟨vw, _⟩ := I1.hok v _ hv
  obtain ⟨o, es, ep, g, y1, y2, y, hn, I2⟩ := I1.freeze hq
  refine items_iter vw g y2 ?_
  refine ⟨s1.heap.objs.size, [s1.heap.objs.size], _, _, upd H1 d (.frz o (.dT kvs)), rfl, I2.kept (t' := s1.toks) fun b o e => Heap.get?_push_of_some _ e, turn_di d _ o es ep kvs y2 hn, ⟨_, _, Heap.get?_push_size _ rfl⟩, fun b hb => ?_, q o⟩
  have e : b = s1.heap.objs.size := by simpa using hb
  subst e
  exact I2.fpOk (Nat.le_refl _) (I2.hok.fresh (Nat.le_refl _))
theorem comp_di {d : Addr} {o : Obj} {kvs : TTab} {g : TG} {tt : TT} {te : TE} {fin : List V -> Hp -> Prop} {σ : St} {H : Hp} (S : St -> Prop) (Pv : Nat -> List V -> Hp -> Prop) (hσ : S σ) (h0 : Pv 0 [] H) (hz : kvs.length < sizeLine)
    (hl : ∀ i ys H, Pv i ys H -> H d = some (.frz o (.dT kvs)))
    (hs : ∀ (i : Nat) (T b : Addr) (k : List Key) (v : V) (ys : List V) (σ : St) (H : Hp) (N : List V -> St -> Hp -> Prop), kvs[i]? = some (k, v) -> H T = none -> H b = some (.tup (k.map kV)) -> S σ -> Pv i ys H -> (∀ ys' σ' H', S σ' -> Pv (i + 1) ys' H' -> ys'.length <= ys.length + 1 -> N ys' σ' H') ->
      g (.ref T) σ (upd H T (.tup [.ref b, v])) fun σ2 H2 => tt σ2 H2 fun b H3 => if b = true then te σ2 H3 fun y H4 => N (ys ++ [y]) σ2 H4 else N ys σ2 H3)
    (hd : ∀ ys H, Pv kvs.length ys H -> fin ys H) : ∃ W, CompW (ItDI d o kvs) g tt te fin W /\ ∃ m, W 0 m [] σ H := by
  refine ⟨fun i m ys σ H => m = kvs.length - i /\ i <= kvs.length /\ ys.length <= i /\ S σ /\ Pv i ys H, ?_, kvs.length, by simp, Nat.zero_le _, Nat.le_refl _, hσ, h0⟩
  rintro i m ys σ H ⟨rfl, hi, hy, hS, p⟩
  by_cases hlt : i < kvs.length
  · refine .inr ⟨⟨hl i ys H p, hlt⟩, by lia, fun x H' y => ?_⟩
    obtain ⟨T, b, k, v, rfl, hT, ek, eb, rfl⟩ := y
    exact hs i T b k v ys σ _ (fun ys' σ' H'' => ∃ m', m' < kvs.length - i /\ m' = kvs.length - (i + 1) /\ i + 1 <= kvs.length /\ ys'.length <= i + 1 /\ S σ' /\ Pv (i + 1) ys' H'') ek hT eb hS p (fun ys' σ' H'' a b c => ⟨_, by lia, rfl, hlt, by lia, a, b⟩)
  · have e : i = kvs.length := by lia
    subst e
    exact .inl ⟨⟨hl _ ys H p, Nat.le_refl _⟩, by lia, hd ys H p⟩
end L2
namespace L2
open PySem PySem.W PyProof.Rows
inductive Ran (lt : Nat -> Nat -> Bool) (N : Nat) {α : Type} : KasT α -> α -> Prop
  | ret (a : α) : Ran lt N (.ret a) a
  | ask {i j : Nat} {k : Bool -> KasT α} {a : α} (hi : i < N) (hj : j < N) (h : Ran lt N (k (lt i j)) a) : Ran lt N (.ask i j k) a
theorem Ran.bind {lt : Nat -> Nat -> Bool} {N : Nat} {α β : Type} {t : KasT α} {a : α} {f : α -> KasT β} {b : β} (h : Ran lt N t a) (h2 : Ran lt N (f a) b) : Ran lt N (t.bind f) b := by
  induction h with
  | ret a => exact h2
  | ask hi hj _ ih => exact .ask hi hj (ih h2)
theorem Ran.wp {lt : Nat -> Nat -> Bool} {N : Nat} {α : Type} {t : KasT α} {a : α} {cmp : Nat -> Nat -> (Bool -> Shared -> Prop) -> Shared -> Prop} {s : Shared} {Q : α -> Shared -> Prop} (h : Ran lt N t a)
    (hc : ∀ i j C, i < N -> j < N -> C (lt i j) s -> cmp i j C s) (q : Q a s) : t.kasWp cmp Q s := by
  induction h with
  | ret a => exact q
  | ask hi hj _ ih => exact hc _ _ _ hi hj (ih q)
structure Ord (lt : Nat -> Nat -> Bool) : Prop where
  as : ∀ i j, lt i j = true -> lt j i = false
  tr : ∀ i j k, lt j i = false -> lt k j = false -> lt k i = false
theorem Ord.rf {lt : Nat -> Nat -> Bool} (o : Ord lt) (i : Nat) : lt i i = false := by
  cases h : lt i i with
  | false => rfl
  | true => have := o.as i i h; rw [h] at this; exact this
structure PB (N : Nat) (p : Array Nat) : Prop where
  perm : p.Perm (List.range N).toArray
theorem PB.size {N : Nat} {p : Array Nat} (h : PB N p) : p.size = N := by have := h.perm.size_eq; simpa using this
theorem PB.lt {N : Nat} {p : Array Nat} (h : PB N p) {i : Nat} (hi : i < N) : p.getD i 0 < N := by
  have hs : i < p.size := by rw [h.size]; exact hi
  have e : p.getD i 0 = p[i] := by simp [Array.getD, hs]
  rw [e]
  have hm : p[i] ∈ p := Array.getElem_mem hs
  have := h.perm.mem_iff.mp hm
  simpa using this
theorem PB.rev {N : Nat} {p : Array Nat} (h : PB N p) (i j : Nat) : PB N (kas_rev p i j) := ⟨(mirror_perm p i j _).trans h.perm⟩
theorem PB.bub {N : Nat} {p : Array Nat} (h : PB N p) (i j : Nat) : PB N (bubble p i j) := ⟨(bubble_perm p i j).trans h.perm⟩
theorem getD_of {xs ys : Array Nat} {i j : Nat} (h : xs[i]? = ys[j]?) : xs.getD i 0 = ys.getD j 0 := by
  rw [Array.getD_eq_getD_getElem?, Array.getD_eq_getD_getElem?, h]
theorem rev_at {N : Nat} {p : Array Nat} (h : PB N p) {i j : Nat} (hj : j <= N) (k : Nat) : (kas_rev p i j).getD k 0 = if i <= k /\ k < j then p.getD (i + j - 1 - k) 0 else p.getD k 0 := by
  have e := getElem?_mirror_all (xs := p) (i := i) (j := j) (by rw [h.size]; exact hj) k
  unfold kas_rev
  by_cases c : i <= k /\ k < j
  · rw [if_pos c] at e ⊢; exact getD_of e
  · rw [if_neg c] at e ⊢; exact getD_of e
theorem bub_at {N : Nat} {p : Array Nat} (h : PB N p) {k l : Nat} (hk : k < N) (hl : l <= k) (i : Nat) :
    (bubble p k (k - l)).getD i 0 = if i = l then p.getD k 0 else if l < i /\ i <= k then p.getD (i - 1) 0 else p.getD i 0 := by
  have e := getElem?_bubble (xs := p) (src := k) (by rw [h.size]; exact hk) (k - l) (by lia) i
  rw [show k - (k - l) = l by lia] at e
  by_cases c : i = l
  · rw [if_pos c] at e ⊢; exact getD_of e
  · rw [if_neg c] at e ⊢
    by_cases c2 : l < i /\ i <= k
    · rw [if_pos c2] at e ⊢; exact getD_of e
    · rw [if_neg c2] at e ⊢; exact getD_of e
section
variable {lt : Nat -> Nat -> Bool} {N : Nat}
def Up (lt : Nat -> Nat -> Bool) (p : Array Nat) (m : Nat) : Prop := ∀ i j, i <= j -> j < m -> lt (p.getD j 0) (p.getD i 0) = false
def Down (lt : Nat -> Nat -> Bool) (p : Array Nat) (m : Nat) : Prop := ∀ i j, i <= j -> j < m -> lt (p.getD i 0) (p.getD j 0) = false
def Flat (lt : Nat -> Nat -> Bool) (p : Array Nat) (a b : Nat) : Prop := ∀ i j, a <= i -> i < b -> a <= j -> j < b -> lt (p.getD i 0) (p.getD j 0) = false
theorem up_more (o : Ord lt) {p : Array Nat} {n : Nat} (h : Up lt p n) (n1 : 1 <= n) (c : lt (p.getD n 0) (p.getD (n - 1) 0) = false) : Up lt p (n + 1) := by
  intro i j hij hj
  by_cases e : j = n
  · subst e
    by_cases e2 : i = j
    · subst e2; exact o.rf _
    · exact o.tr _ _ _ (h i (j - 1) (by lia) (by lia)) c
  · exact h i j hij (by lia)
theorem down_more (o : Ord lt) {p : Array Nat} {n : Nat} (h : Down lt p n) (n1 : 1 <= n) (c : lt (p.getD (n - 1) 0) (p.getD n 0) = false) : Down lt p (n + 1) := by
  intro i j hij hj
  by_cases e : j = n
  · subst e
    by_cases e2 : i = j
    · subst e2; exact o.rf _
    · exact o.tr _ _ _ c (h i (j - 1) (by lia) (by lia))
  · exact h i j hij (by lia)
theorem ran_asc (o : Ord lt) {p : Array Nat} (B : PB N p) : ∀ (f n : Nat), 1 <= n -> n + f <= N -> Up lt p n -> ∃ m, Ran lt N (kas_asc p f n) m /\ n <= m /\ m <= n + f /\ Up lt p m /\ (m = n + f \/ (m < N /\ lt (p.getD m 0) (p.getD (m - 1) 0) = true))
  | 0, n, _, _, h => ⟨n, .ret n, Nat.le_refl _, Nat.le_refl _, h, .inl rfl⟩
  | f + 1, n, n1, hf, h => by
    have b1 := B.lt (i := n) (by lia)
    have b2 := B.lt (i := n - 1) (by lia)
    cases c : lt (p.getD n 0) (p.getD (n - 1) 0) with
    | true =>
      refine ⟨n, .ask b1 b2 ?_, Nat.le_refl _, by lia, h, .inr ⟨by lia, c⟩⟩
      rw [c]
      exact .ret n
    | false =>
      obtain ⟨m, r, m1, m2, u, z⟩ := ran_asc o B f (n + 1) (by lia) (by lia) (up_more o h n1 c)
      refine ⟨m, .ask b1 b2 ?_, by lia, by lia, u, ?_⟩
      · rw [c]; exact r
      · rcases z with z | z
        · exact .inl (by lia)
        · exact .inr z
theorem down_flat (o : Ord lt) {p : Array Nat} (B : PB N p) {n q : Nat} (hn : n <= N) (hq : q + 1 <= n) (h : Down lt p n) (fl : Flat lt p (n - (q + 1)) n) : Down lt (kas_rev p (n - (q + 1)) n) n := by
  intro i j hij hj
  rw [rev_at B hn, rev_at B hn]
  by_cases c1 : n - (q + 1) <= i /\ i < n
  · rw [if_pos c1, if_pos (by lia)]
    exact fl _ _ (by lia) (by lia) (by lia) (by lia)
  · rw [if_neg c1]
    by_cases c2 : n - (q + 1) <= j /\ j < n
    · rw [if_pos c2]
      exact h _ _ (by lia) (by lia)
    · rw [if_neg c2]
      exact h _ _ hij hj
theorem ran_desc (o : Ord lt) : ∀ (f : Nat) (p : Array Nat) (n q : Nat), PB N p -> q + 1 <= n -> n + f <= N -> Down lt p n -> Flat lt p (n - (q + 1)) n ->
    ∃ p' n' q', Ran lt N (kas_desc f p n q) (p', n', q') /\ PB N p' /\ n <= n' /\ n' <= n + f /\ q' + 1 <= n' /\ Down lt p' n' /\ Flat lt p' (n' - (q' + 1)) n'
  | 0, p, n, q, B, hq, hf, h, fl => ⟨p, n, q, .ret _, B, Nat.le_refl _, Nat.le_refl _, hq, h, fl⟩
  | f + 1, p, n, q, B, hq, hf, h, fl => by
    have b1 := B.lt (i := n) (by lia)
    have b2 := B.lt (i := n - 1) (by lia)
    cases c : lt (p.getD n 0) (p.getD (n - 1) 0) with
    | true =>
      have c' := o.as _ _ c
      by_cases q0 : q > 0
      · have B1 := B.rev (n - (q + 1)) n
        have d1 := down_flat o B (by lia) hq h fl
        have en : (kas_rev p (n - (q + 1)) n).getD n 0 = p.getD n 0 := by rw [rev_at B (by lia), if_neg (by lia)]
        have el : (kas_rev p (n - (q + 1)) n).getD (n - 1) 0 = p.getD (n - (q + 1)) 0 := by
          rw [rev_at B (by lia), if_pos (by lia)]
          congr 1
          lia
        have d2 : Down lt (kas_rev p (n - (q + 1)) n) (n + 1) := down_more o d1 (by lia) (by
          rw [en, el]
          exact o.tr _ _ _ c' (h _ _ (by lia) (by lia)))
        obtain ⟨p', n', q', r, z1, z2, z3, z4, z5, z6⟩ := ran_desc o f _ (n + 1) 0 B1 (by lia) (by lia) d2 (fun i j i1 i2 j1 j2 => by
          have : i = j := by lia
          subst this; exact o.rf _)
        refine ⟨p', n', q', .ask b1 b2 ?_, z1, by lia, by lia, z4, z5, z6⟩
        rw [c]
        simp only [if_true, if_pos q0]
        exact r
      · obtain ⟨p', n', q', r, z1, z2, z3, z4, z5, z6⟩ := ran_desc o f p (n + 1) 0 B (by lia) (by lia) (down_more o h (by lia) c') (fun i j i1 i2 j1 j2 => by
          have : i = j := by lia
          subst this; exact o.rf _)
        refine ⟨p', n', q', .ask b1 b2 ?_, z1, by lia, by lia, z4, z5, z6⟩
        rw [c]
        simp only [if_true, if_neg q0]
        exact r
    | false =>
      cases c2 : lt (p.getD (n - 1) 0) (p.getD n 0) with
      | true =>
        refine ⟨p, n, q, .ask b1 b2 ?_, B, Nat.le_refl _, by lia, hq, h, fl⟩
        rw [c]
        simp only [Bool.false_eq_true, if_false]
        refine .ask b2 b1 ?_
        rw [c2]
        simp only [if_true]
        exact .ret _
      | false =>
        have fl2 : Flat lt p (n + 1 - (q + 1 + 1)) (n + 1) := by
          intro i j i1 i2 j1 j2
          by_cases ei : i = n
          · subst ei
            by_cases ej : j = i
            · subst ej; exact o.rf _
            · exact o.tr _ _ _ (fl (i - 1) j (by lia) (by lia) (by lia) (by lia)) c
          · by_cases ej : j = n
            · subst ej
              exact o.tr _ _ _ c2 (fl i (j - 1) (by lia) (by lia) (by lia) (by lia))
            · exact fl i j (by lia) (by lia) (by lia) (by lia)
        obtain ⟨p', n', q', r, z1, z2, z3, z4, z5, z6⟩ := ran_desc o f p (n + 1) (q + 1) B (by lia) (by lia) (down_more o h (by lia) c2) fl2
        refine ⟨p', n', q', .ask b1 b2 ?_, z1, by lia, by lia, z4, z5, z6⟩
        rw [c]
        simp only [Bool.false_eq_true, if_false]
        refine .ask b2 b1 ?_
        rw [c2]
        simp only [Bool.false_eq_true, if_false]
        exact r
theorem up_rev {p : Array Nat} (B : PB N p) {n : Nat} (hn : n <= N) (h : Down lt p n) : Up lt (kas_rev p 0 n) n := by
  intro i j hij hj
  rw [rev_at B hn, rev_at B hn, if_pos (by lia), if_pos (by lia)]
  exact h _ _ (by lia) (by lia)
theorem ran_tail3 (o : Ord lt) {p : Array Nat} (B : PB N p) {n : Nat} (n1 : 1 <= n) (hn : n <= N) (h : Down lt p n) : ∃ m p', Ran lt N (kas_tail3 n N p) (m, p') /\ PB N p' /\ 1 <= m /\ m <= N /\ Up lt p' m := by
  obtain ⟨m, r, m1, m2, u, _⟩ := ran_asc o (B.rev 0 n) (N - n) n n1 (by lia) (up_rev B hn h)
  exact ⟨m, _, r.bind (.ret _), B.rev 0 n, by lia, by lia, u⟩
theorem ran_descPart (o : Ord lt) {p : Array Nat} (B : PB N p) {n : Nat} (hn : n + 1 <= N) (h : Down lt p (n + 1)) : ∃ m p', Ran lt N (kas_descPart n N p) (m, p') /\ PB N p' /\ 1 <= m /\ m <= N /\ Up lt p' m := by
  obtain ⟨p', n', q', r, z1, z2, z3, z4, z5, z6⟩ := ran_desc o (N - (n + 1)) p (n + 1) 0 B (by lia) (by lia) h (fun i j i1 i2 j1 j2 => by
    have : i = j := by lia
    subst this; exact o.rf _)
  by_cases q0 : q' > 0
  · obtain ⟨m, p2, r2, y⟩ := ran_tail3 o (z1.rev (n' - (q' + 1)) n') (n := n') (by lia) (by lia) (down_flat o z1 (by lia) z4 z5 z6)
    exact ⟨m, p2, r.bind (by rw [if_pos q0]; exact r2), y⟩
  · obtain ⟨m, p2, r2, y⟩ := ran_tail3 o z1 (n := n') (by lia) (by lia) z5
    exact ⟨m, p2, r.bind (by rw [if_neg q0]; exact r2), y⟩
theorem ran_count (o : Ord lt) {p : Array Nat} (B : PB N p) (hN : 1 <= N) : ∃ m p', Ran lt N (kas_count N p) (m, p') /\ PB N p' /\ 1 <= m /\ m <= N /\ Up lt p' m := by
  obtain ⟨n, r, n1, n2, u, z⟩ := ran_asc o B (N - 1) 1 (Nat.le_refl _) (by lia) (fun i j hij hj => by
    have : i = j := by lia
    subst this; exact o.rf _)
  by_cases e : n = N
  · exact ⟨n, p, r.bind (by rw [if_pos (by simp [e])]; exact .ret _), B, n1, by lia, u⟩
  · have zz : n < N /\ lt (p.getD n 0) (p.getD (n - 1) 0) = true := by
      rcases z with z | z
      · lia
      · exact z
    have c' := o.as _ _ zz.2
    by_cases g : n > 1
    · cases c : lt (p.getD 0 0) (p.getD (n - 1) 0) with
      | true =>
        refine ⟨n, p, r.bind ?_, B, n1, by lia, u⟩
        rw [if_neg (by simp [e]), if_pos g]
        refine .ask (B.lt (by lia)) (B.lt (by lia)) ?_
        rw [c]
        simp only [if_true]
        exact .ret _
      | false =>
        have alike : ∀ i j, i < n -> j < n -> lt (p.getD i 0) (p.getD j 0) = false := by
          intro i j hi hj
          have a1 : lt (p.getD i 0) (p.getD 0 0) = false := u 0 i (by lia) hi
          have a2 : lt (p.getD (n - 1) 0) (p.getD j 0) = false := u j (n - 1) (by lia) (by lia)
          exact o.tr _ _ _ a2 (o.tr _ _ _ c a1)
        have dn : Down lt (kas_rev p 0 n) (n + 1) := by
          refine down_more o (fun i j hij hj => ?_) n1 ?_
          · rw [rev_at B (by lia), rev_at B (by lia), if_pos (by lia), if_pos (by lia)]
            exact alike _ _ (by lia) (by lia)
          · rw [rev_at B (by lia), rev_at B (by lia), if_pos (by lia), if_neg (by lia)]
            exact o.tr _ _ _ c' (alike _ _ (by lia) (by lia))
        obtain ⟨m, p2, r2, y⟩ := ran_descPart o (B.rev 0 n) (n := n) (by lia) dn
        refine ⟨m, p2, r.bind ?_, y⟩
        rw [if_neg (by simp [e]), if_pos g]
        refine .ask (B.lt (by lia)) (B.lt (by lia)) ?_
        rw [c]
        simp only [Bool.false_eq_true, if_false]
        exact r2
    · obtain rfl : n = 1 := by lia
      have dn : Down lt p (1 + 1) := down_more o (fun i j hij hj => by
        have : i = j := by lia
        subst this; exact o.rf _) (Nat.le_refl _) c'
      obtain ⟨m, p2, r2, y⟩ := ran_descPart o B (n := 1) (by lia) dn
      exact ⟨m, p2, r.bind (by rw [if_neg (by simp [e]), if_neg g]; exact r2), y⟩
theorem ran_place (o : Ord lt) {p : Array Nat} (B : PB N p) {k : Nat} (hk : k < N) (u : Up lt p k) : ∀ (f l r : Nat), l <= r -> r <= k -> r - l <= f -> (∀ i, i < l -> lt (p.getD k 0) (p.getD i 0) = false) -> (∀ i, r <= i -> i < k -> lt (p.getD i 0) (p.getD k 0) = false) ->
    ∃ m, Ran lt N (kas_place p k f l r) m /\ m <= k /\ (∀ i, i < m -> lt (p.getD k 0) (p.getD i 0) = false) /\ (∀ i, m <= i -> i < k -> lt (p.getD i 0) (p.getD k 0) = false)
  | 0, l, r, h1, h2, h3, a, b => ⟨l, .ret _, by lia, a, fun i i1 i2 => b i (by lia) i2⟩
  | f + 1, l, r, h1, h2, h3, a, b => by
    by_cases g : l >= r
    · refine ⟨l, ?_, by lia, a, fun i i1 i2 => b i (by lia) i2⟩
      unfold kas_place
      rw [if_pos g]
      exact .ret _
    · cases c : lt (p.getD k 0) (p.getD ((l + r) / 2) 0) with
      | true =>
        obtain ⟨m, rr, y⟩ := ran_place o B hk u f l ((l + r) / 2) (by lia) (by lia) (by lia) a (fun i i1 i2 => o.tr _ _ _ (o.as _ _ c) (u _ _ i1 i2))
        refine ⟨m, ?_, y⟩
        unfold kas_place
        rw [if_neg g]
        refine .ask (B.lt hk) (B.lt (by lia)) ?_
        rw [c]
        simp only [if_true]
        exact rr
      | false =>
        obtain ⟨m, rr, y⟩ := ran_place o B hk u f ((l + r) / 2 + 1) r (by lia) (by lia) (by lia) (fun i i1 => o.tr _ _ _ (u i ((l + r) / 2) (by lia) (by lia)) c) b
        refine ⟨m, ?_, y⟩
        unfold kas_place
        rw [if_neg g]
        refine .ask (B.lt hk) (B.lt (by lia)) ?_
        rw [c]
        simp only [Bool.false_eq_true, if_false]
        exact rr
theorem ran_bin (o : Ord lt) : ∀ (f : Nat) (p : Array Nat) (k : Nat), PB N p -> k + f <= N -> Up lt p k -> ∃ p', Ran lt N (kas_bin f p k) p' /\ PB N p' /\ Up lt p' (k + f)
  | 0, p, k, B, _, u => ⟨p, .ret _, B, u⟩
  | f + 1, p, k, B, hf, u => by
    have hk : k < N := by lia
    obtain ⟨l, r, hl, a, b⟩ := ran_place o B hk u k 0 k (Nat.zero_le _) (Nat.le_refl _) (by lia) (fun i hi => absurd hi (by lia)) (fun i i1 i2 => absurd i2 (by lia))
    have u2 : Up lt (bubble p k (k - l)) (k + 1) := by
      intro i j hij hj
      rw [bub_at B hk hl, bub_at B hk hl]
      by_cases ej : j = l
      · rw [if_pos ej]
        by_cases ei : i = l
        · rw [if_pos ei]; exact o.rf _
        · rw [if_neg ei, if_neg (by lia)]
          exact a i (by lia)
      · rw [if_neg ej]
        by_cases cj : l < j /\ j <= k
        · rw [if_pos cj]
          by_cases ei : i = l
          · rw [if_pos ei]
            exact b _ (by lia) (by lia)
          · rw [if_neg ei]
            by_cases ci : l < i /\ i <= k
            · rw [if_pos ci]; exact u _ _ (by lia) (by lia)
            · rw [if_neg ci]; exact u _ _ (by lia) (by lia)
        · rw [if_neg cj, if_neg (show ¬ i = l by lia), if_neg (by lia)]
          exact u _ _ hij (by lia)
    obtain ⟨p', r2, B2, u3⟩ := ran_bin o f _ (k + 1) (B.bub k (k - l)) (by lia) u2
    exact ⟨p', r.bind r2, B2, by rw [show k + (f + 1) = k + 1 + f by lia]; exact u3⟩
theorem ran_sort (o : Ord lt) (hN : 1 <= N) : ∃ p, Ran lt N (kas_sort N) p /\ PB N p /\ Up lt p N := by
  obtain ⟨m, p, r, B, m1, m2, u⟩ := ran_count o (p := (List.range N).toArray) ⟨Array.Perm.refl _⟩ hN
  by_cases c : m < N
  · obtain ⟨p2, r2, B2, u2⟩ := ran_bin o (N - max m 1) p (max m 1) B (by lia) (by rw [Nat.max_eq_left m1]; exact u)
    refine ⟨p2, r.bind (by rw [if_pos c]; exact r2), B2, ?_⟩
    rw [show max m 1 + (N - max m 1) = N by lia] at u2
    exact u2
  · obtain rfl : m = N := by lia
    exact ⟨p, r.bind (by rw [if_neg c]; exact .ret _), B, u⟩
end
end L2
namespace L2
open PySem PySem.W PyProof.Rows
section
variable {prog : Program} {w : World} {A : Around} {E : Value -> Shared -> Prop} {s : Shared}
def Asks (prog : Program) (w : World) (s : Shared) (lt : Nat -> Nat -> Bool) (vs : List Value) : Prop :=
  ∀ (A : Around) (h' : Heap), (∀ b u, s.heap.get? b = some u -> h'.get? b = some u) -> 2 <= vs.length -> ∃ κ : SortKind, (∀ (E : Value -> Shared -> Prop) (Q : SortKind -> Shared -> Prop), Q κ { s with heap := h' } -> wpAny (model prog w) A (keyKind' vs.toArray) Q E { s with heap := h' }) /\
    ∀ (i j : Nat) (C : Bool -> Shared -> Prop), i < vs.length -> j < vs.length -> C (lt i j) { s with heap := h' } -> wpAny (model prog w) A (keyLt' κ (vs.getD i Value.none) (vs.getD j Value.none)) C (fun _ _ => False) { s with heap := h' }
def outOf (vs : List Value) (p : Array Nat) : List Value := p.toList.map fun i => vs.getD i Value.none
theorem sort_one {vs : List Value} (h : ¬ vs.length >= 2) : outOf vs (List.range vs.length).toArray = vs := by
  unfold outOf
  match vs with
  | [] => rfl
  | [v] => rfl
  | _ :: _ :: _ => simp at h
theorem zip_snd (vs : List Value) : (vs.toArray.zip vs.toArray).map (·.2) = vs.toArray := by
  apply Array.toList_inj.mp
  rw [Array.toList_map, Array.toList_zip]
  exact List.map_snd_zip (Nat.le_refl _)
theorem sort_body {a : Addr} {vs : List Value} {n : Nat} {lt : Nat -> Nat -> Bool} {P : PySem.Fin -> Shared -> Prop} (ho : s.heap.get? a = some (seqObj "list" vs.toArray n)) (o : Ord lt) (h64 : vs.length < 64)
    (ask : 2 <= vs.length -> ∀ h', (∀ b u, b ≠ a -> s.heap.get? b = some u -> h'.get? b = some u) -> ∃ κ : SortKind, (∀ (E : Value -> Shared -> Prop) (Q : SortKind -> Shared -> Prop), Q κ { s with heap := h' } -> wpAny (model prog w) A (keyKind' vs.toArray) Q E { s with heap := h' }) /\
      ∀ (i j : Nat) (C : Bool -> Shared -> Prop), i < vs.length -> j < vs.length -> C (lt i j) { s with heap := h' } -> wpAny (model prog w) A (keyLt' κ (vs.getD i Value.none) (vs.getD j Value.none)) C (fun _ _ => False) { s with heap := h' })
    (q : ∀ p, PB vs.length p -> Up lt p vs.length -> P (.done (.ret .none)) { s with heap := sortedHeap s.heap a vs (outOf vs p).toArray }) : wpAny (model prog w) A (Builtin.«list.sort» ⟨[.ref a], []⟩) P E s := by
  rw [list_sort_plain]
  have la : a < s.heap.objs.size := Heap.lt_size ho
  have zs : vs.length <= sizeLine := by rw [sizeLine_eq]; lia
  refine wpAny_bind (listItems_at ho rfl (wpAny_bind (listUpdate_at ho rfl ?_ (by rw [List.size_toArray]; exact zs) (Nat.zero_le _))))
  obtain ⟨e1, o1⟩ : ∃ e1, (s.heap.update a (Obj.mapSeq fun _ => (#[] : Array Value))).get? a = some (seqObj "list" #[] e1) := ⟨_, get?_update_seq ho fun _ => #[]⟩
  refine wpAny_bind (seqEpoch_at o1 rfl (wpAny_bind (wpAny_newTuple (wpAny_bind (wpAny_newList (wpAny_holding ?_) (Nat.zero_le _))) (by show vs.length <= _; exact zs))))
  have sb := Heap.SameBut.update s.heap a (Obj.mapSeq fun _ => (#[] : Array Value))
  have keep : ∀ b u, b ≠ a -> s.heap.get? b = some u -> (((s.heap.update a (Obj.mapSeq fun _ => #[])).push (seqObj "tuple" vs.toArray 0)).push (seqObj "list" #[] 0)).get? b = some u := fun b u hb z =>
    Heap.get?_push_of_some _ (Heap.get?_push_of_some _ ((sb.2 b hb).trans z))
  have o6 : (((s.heap.update a (Obj.mapSeq fun _ => #[])).push (seqObj "tuple" vs.toArray 0)).push (seqObj "list" #[] 0)).get? a = some (seqObj "list" #[] e1) := Heap.get?_push_of_some _ (Heap.get?_push_of_some _ o1)
  show wpAny (model prog w) A _ P E { s with heap := ((s.heap.update a (Obj.mapSeq fun _ => (#[] : Array Value))).push (seqObj "tuple" vs.toArray 0)).push (seqObj "list" #[] 0) }
  dsimp only
  have fin : ∀ (st : SortSt) (out : List Value), (arrOf st).map (·.2) = out.toArray -> out.length = vs.length -> failedOf st = none -> P (.done (.ret .none)) { s with heap := sortedHeap s.heap a vs out.toArray } ->
      wpAny (model prog w) A (do
        let touched := (<- seqEpoch a) != e1
        Builtin.List.listUpdate (.ref a) fun _ => (arrOf st).map (·.2)
        if let some e := failedOf st then rule "list.sort.comparison-raised"; throw e
        if touched then rule "list.sort.modified"; raiseError "ValueError" "list modified during sort"
        ret .none) P E { s with heap := ((s.heap.update a (Obj.mapSeq fun _ => (#[] : Array Value))).push (seqObj "tuple" vs.toArray 0)).push (seqObj "list" #[] 0) } := by
    intro st out eo el ef qq
    refine wpAny_bind (seqEpoch_at o6 rfl ?_)
    rw [eo]
    refine wpAny_bind (listUpdate_at o6 rfl ?_ (Nat.zero_le _) (by show out.toArray.size <= _; rw [List.size_toArray, el, sizeLine_eq]; lia))
    rw [ef]
    simp only [bne_self_eq_false, Bool.false_eq_true, if_false]
    exact wpAny_pure qq
  by_cases two : vs.length >= 2
  · have hn2 : ¬ vs.toArray.size < 2 := by rw [List.size_toArray]; lia
    rw [if_neg hn2, if_neg hn2]
    obtain ⟨κ, kk, cc⟩ := ask two _ keep
    obtain ⟨p, ran, pb, up⟩ := ran_sort (N := vs.length) o (by lia)
    refine wpAny_bind (kk _ _ ?_)
    refine wpAny_bind (wpAny_mono (kat_run (E := E) (Q := fun st' s' => s' = { s with heap := ((s.heap.update a (Obj.mapSeq fun _ => (#[] : Array Value))).push (seqObj "tuple" vs.toArray 0)).push (seqObj "list" #[] 0) } /\ arrOf st' = p.map (kas_item (vs.toArray.zip vs.toArray)) /\ failedOf st' = none)
      (G := fun p' s' => p' = p /\ s' = { s with heap := ((s.heap.update a (Obj.mapSeq fun _ => (#[] : Array Value))).push (seqObj "tuple" vs.toArray 0)).push (seqObj "list" #[] 0) }) rfl two h64 (fun p' st' s' a1 a2 a3 a4 => ⟨a4.2, by rw [a2, a4.1], a3⟩) (ran.wp (fun i j C hi hj hC => cc i j C hi hj hC) ⟨rfl, rfl⟩)) ?_ fun _ _ x => x)
    rintro ⟨⟨⟩, st'⟩ s' ⟨rfl, ea, ef⟩
    exact fin st' (outOf vs p) (kat_snds rfl ea) (by unfold outOf; rw [List.length_map, Array.length_toList, pb.size]) ef (q p pb up)
  · have hn2 : vs.toArray.size < 2 := by rw [List.size_toArray]; lia
    rw [if_pos hn2, if_pos hn2]
    refine wpAny_bind (wpAny_pure ?_)
    rw [StateT.run_pure]
    refine wpAny_bind (wpAny_pure ?_)
    refine fin (SortSt.mk' general' (vs.toArray.zip vs.toArray) #[] 7 none) (outOf vs (List.range vs.length).toArray) ?_ (by rw [sort_one two]) rfl (q _ ⟨Array.Perm.refl _⟩ ?_)
    · rw [sort_one two]; exact zip_snd vs
    · intro i j hij hj
      have : i = j := by lia
      subst this; exact o.rf _
theorem sorted_gen {l : Addr} {vs : List Value} {lt : Nat -> Nat -> Bool} {Q : Value -> Shared -> Prop} (hl : s.heap.IsList l vs.toArray) (o : Ord lt) (h64 : vs.length < 64) (ask : Asks prog w s lt vs)
    (q : ∀ p, PB vs.length p -> Up lt p vs.length -> Q (.ref (s.heap.objs.size + 1)) { s with heap := sortedAll s.heap vs (outOf vs p).toArray }) : wpAny (model prog w) A (call (.builtin "sorted") [.ref l]) Q E s := by
  refine Calls.call_function_entry kind_sorted plain_sorted entry_sorted (args_sorted1 _) ?_
  unfold Builtin.«sorted»
  refine wpAny_bind (m := checkCount "sorted" 1 1 _) (wpAny_pure (wpAny_bind (collect_list hl (wpAny_bind (wpAny_newList ?_ (by rw [sizeLine_eq]; lia))) (by rw [sizeLine_eq]; lia))))
  have z1 : ((s.heap.push (seqObj "list" #[] 0)).update s.heap.objs.size (Obj.mapSeq (· ++ vs.toArray))).objs.size = s.heap.objs.size + 1 := by rw [Heap.size_update, size_push']
  have oL : (((s.heap.push (seqObj "list" #[] 0)).update s.heap.objs.size (Obj.mapSeq (· ++ vs.toArray))).push (seqObj "list" vs.toArray 0)).get? (s.heap.objs.size + 1) = some (seqObj "list" vs.toArray 0) := by
    rw [<- z1]; exact Heap.get?_push_size _ rfl
  have keep : ∀ b u, s.heap.get? b = some u -> (((s.heap.push (seqObj "list" #[] 0)).update s.heap.objs.size (Obj.mapSeq (· ++ vs.toArray))).push (seqObj "list" vs.toArray 0)).get? b = some u := fun b u z => by
    have lb : b < s.heap.objs.size := Heap.lt_size z
    exact Heap.get?_push_of_some _ (by rw [Heap.get?_update_ne _ _ _ _ (Nat.ne_of_lt lb)]; exact Heap.get?_push_of_some _ z)
  show wpAny _ _ _ _ _ { s with heap := ((s.heap.push (seqObj "list" #[] 0)).update s.heap.objs.size (Obj.mapSeq (· ++ vs.toArray))).push (seqObj "list" vs.toArray 0) }
  rw [z1]
  refine wpAny_bind (wpAny_holding (wpAny_call_entry slot_list_sort ⟨_, oL, rfl⟩ entry_list_sort (sort_body oL o h64 (fun two h' k => ask _ h' (fun b u z => k b u (fun e => ?_) (keep b u z)) two) fun p pb up => ⟨_, rfl, ?_⟩) (args_list_sort _)))
  · exact absurd (Heap.lt_size z) (by rw [e]; exact Nat.not_lt.mpr (Nat.le_succ _))
  · exact wpAny_pure ⟨_, rfl, q p pb up⟩
end
end L2
namespace L2
open PySem PySem.W PyProof.Rows
theorem lex_as : ∀ (a b : List Int), HT.lexLt a b = true -> HT.lexLt b a = false
  | [], [], h => by cases h
  | [], _ :: _, _ => rfl
  | _ :: _, [], h => by cases h
  | x :: xs, y :: ys, h => by
    rw [HT.lexLt_cons] at h ⊢
    by_cases e : x = y
    · rw [if_pos e] at h; rw [if_pos e.symm]; exact lex_as xs ys h
    · rw [if_neg e] at h; rw [if_neg (Ne.symm e)]
      have := of_decide_eq_true h
      exact decide_eq_false (by lia)
theorem lex_tr : ∀ (a b c : List Int), HT.lexLt b a = false -> HT.lexLt c b = false -> HT.lexLt c a = false
  | [], [], c, _, h => h
  | [], _ :: _, [], _, h => by cases h
  | [], _ :: _, _ :: _, _, _ => rfl
  | _ :: _, [], _, h, _ => by cases h
  | x :: xs, y :: ys, [], _, h => by cases h
  | x :: xs, y :: ys, z :: zs, h1, h2 => by
    rw [HT.lexLt_cons] at h1 h2 ⊢
    by_cases e1 : y = x
    · rw [if_pos e1] at h1
      by_cases e2 : z = y
      · rw [if_pos e2] at h2
        rw [if_pos (e2.trans e1)]
        exact lex_tr xs ys zs h1 h2
      · rw [if_neg e2] at h2
        rw [if_neg (fun q => e2 (q.trans e1.symm))]
        have := of_decide_eq_false h2
        exact decide_eq_false (by lia)
    · rw [if_neg e1] at h1
      have g1 := of_decide_eq_false h1
      by_cases e2 : z = y
      · rw [if_neg (fun q => e1 (e2.symm.trans q))]
        exact decide_eq_false (by lia)
      · rw [if_neg e2] at h2
        have g2 := of_decide_eq_false h2
        rw [if_neg (by lia)]
        exact decide_eq_false (by lia)
theorem lex_ord (kss : List (List Int)) : Ord fun i j => HT.lexLt (kss.getD i []) (kss.getD j []) := ⟨fun _ _ h => lex_as _ _ h, fun _ _ _ h1 h2 => lex_tr _ _ _ h1 h2⟩
def lexZ (fin : Bool) : List Int -> List Int -> Bool
  | x :: xs, y :: ys => if x = y then lexZ fin xs ys else decide (x < y)
  | _, _ => fin
theorem lexZ_eq : ∀ (a b : List Int), lexZ (decide (a.length < b.length)) a b = HT.lexLt a b
  | [], [] => rfl
  | [], _ :: _ => by show decide _ = true; simp
  | _ :: _, [] => by show decide _ = false; simp
  | x :: xs, y :: ys => by
    rw [HT.lexLt_cons]
    show (if x = y then lexZ _ xs ys else decide (x < y)) = _
    have : decide ((x :: xs).length < (y :: ys).length) = decide (xs.length < ys.length) := by simp
    rw [this, lexZ_eq xs ys]
section
variable {prog : Program} {w : World} {A : Around} {E : Value -> Shared -> Prop} {s : Shared}
theorem ints_lex {fin : Bool} {Q : Bool -> Shared -> Prop} : ∀ {us : List Value} {ks : List Int} {ws : List Value} {ms : List Int} (i : Nat), IntsAre us ks -> IntsAre ws ms -> Q (lexZ fin ks ms) s -> KatLex prog w A true fin Q (us.zip ws) i s
  | _, _, _, _, _, .nil, _, q => kat_nil q
  | _, _, _, _, _, .cons _ _ _, .nil, q => kat_nil q
  | _, _, _, _, i, .cons (vs := us) (ns := ks) x t h1, .cons (vs := ws) (ns := ms) y u h2, q => by
    refine kat_cons (wpAny_eqBool_int (kat_go (fun e => kat_yes (ints_lex (i + 1) h1 h2 ?_)) fun e => kat_no ?_))
    · have : x = y := by simpa using e
      have z : lexZ fin (x :: ks) (y :: ms) = lexZ fin ks ms := by show (if x = y then _ else _) = _; rw [if_pos this]
      rw [z] at q; exact q
    · have : ¬ x = y := by simpa using e
      have z : lexZ fin (x :: ks) (y :: ms) = decide (x < y) := by show (if x = y then _ else _) = _; rw [if_neg this]
      rw [z] at q
      cases h0 : (true && i == 0) with
      | true => exact oneLt_int q
      | false => exact kat_one _ _ (lt_int q)
def TupI (h : Heap) (v : Value) (ks : List Int) : Prop := ∃ a o xs n, v = .ref a /\ h.get? a = some o /\ o.cls = .type "tuple" /\ o.data = .seq xs n /\ IntsAre xs.toList ks
theorem TupI.kept {h h' : Heap} {v : Value} {ks : List Int} (x : TupI h v ks) (k : ∀ b u, h.get? b = some u -> h'.get? b = some u) : TupI h' v ks := let ⟨a, o, xs, n, e, g, r⟩ := x; ⟨a, o, xs, n, e, k _ _ g, r⟩
theorem ints_first {us : List Value} {x : Int} {ks : List Int} (h : IntsAre us (x :: ks)) : ∃ t, us[0]? = some (.int x t) := by
  cases h with
  | cons _ t _ => exact ⟨t, rfl⟩
theorem tups_firsts {h : Heap} : ∀ {vs : List Value} {kss : List (List Int)}, Paired (TupI h) vs kss -> (∀ ks ∈ kss, ks ≠ []) -> ∃ fs, KatTups h vs fs /\ fs.length = vs.length /\ ∀ f ∈ fs, ∃ x t, f = .int x t
  | _, _, .nil, _ => ⟨[], .nil, rfl, fun f hf => nomatch hf⟩
  | _, _, .cons (b := ks) r t, hne => by
    obtain ⟨fs, k, l, a⟩ := tups_firsts t fun ks hk => hne ks (List.mem_cons_of_mem _ hk)
    obtain ⟨ad, o, xs, n, rfl, g, hc, hd, hi⟩ := r
    cases ks with
    | nil => exact absurd rfl (hne _ (List.mem_cons_self ..))
    | cons x ks =>
      obtain ⟨tk, e⟩ := ints_first hi
      refine ⟨.int x tk :: fs, .cons g hc hd (by rw [Array.getElem?_toList] at e; exact e) k, by simp [l], fun f hf => ?_⟩
      rcases List.mem_cons.mp hf with rfl | hf
      · exact ⟨x, tk, rfl⟩
      · exact a f hf
theorem asks_tups {vs : List Value} {kss : List (List Int)} (h : Paired (TupI s.heap) vs kss) (hne : ∀ ks ∈ kss, ks ≠ []) : Asks prog w s (fun i j => HT.lexLt (kss.getD i []) (kss.getD j [])) vs := by
  intro A h' keep two
  have h2 : Paired (TupI h') vs kss := Paired.mapP h fun _ _ x => x.kept keep
  refine ⟨tuples' true, fun E Q q => ?_, fun i j C hi hj q => ?_⟩
  · obtain ⟨fs, k, l, a⟩ := tups_firsts h2 hne
    have e : (Value.type "int" != Value.type "tuple") = true := by decide
    refine kat_kind (T := .type "int") k (by lia) (fun f hf => ?_) (by decide) (by rw [e]; exact q)
    obtain ⟨x, t, rfl⟩ := a f hf
    exact .now
  · have gi : ∀ i, i < vs.length -> ∃ v ks, vs.getD i Value.none = v /\ kss.getD i [] = ks /\ TupI h' v ks := fun i hi => by
      obtain ⟨ks, e, r⟩ := Paired.at h2 (i := i) (a := vs[i]) (by simp [hi])
      exact ⟨vs[i], ks, by simp [hi], by rw [List.getD_eq_getElem?_getD, e]; rfl, r⟩
    obtain ⟨v, ks, ev, ek, a, o, xs, n, rfl, g, _, hd, hI⟩ := gi i hi
    obtain ⟨u, ms, eu, em, b, o2, ys, n2, rfl, g2, _, hd2, hI2⟩ := gi j hj
    rw [ev, eu]
    refine kat_lt (s := { s with heap := h' }) g hd g2 hd2 (ints_lex 0 hI hI2 ?_)
    have l1 : xs.size = ks.length := by have := hI.length; simpa using this
    have l2 : ys.size = ms.length := by have := hI2.length; simpa using this
    rw [l1, l2, lexZ_eq]
    have q' : C (HT.lexLt (kss.getD i []) (kss.getD j [])) { s with heap := h' } := q
    rw [ek, em] at q'
    exact q'
end
def IntsAt (H : Hp) (v : V) (ks : List Int) : Prop := ∃ a, v = .ref a /\ H a = some (.tup (ks.map V.int))
def LexLe (a b : List Int) : Prop := HT.lexLt b a = false
section
variable {X : Cx}
def rSortedT (K : PySem.W.Frag) : List V -> Hp -> VK -> Prop := fun xs H Q => ∃ (p : Addr) (rs : List V) (kss : List (List Int)), xs = [.ref p] /\ SqL K H p rs /\ rs.length < 64 /\ Paired (IntsAt H) rs kss /\ (∀ ks ∈ kss, ks ≠ []) /\
  ∀ (l : Addr) (rs' : List V) (kss' : List (List Int)), Paired (IntsAt H) rs' kss' -> kss'.Perm kss -> kss'.Pairwise LexLe -> H l = none -> Q (.ref l) (upd H l (.lst rs'))
theorem paired_map {α β γ : Type} {F : α -> β -> Prop} {f : γ -> α} {g : γ -> β} : ∀ {l : List γ}, (∀ c ∈ l, F (f c) (g c)) -> Paired F (l.map f) (l.map g)
  | [], _ => .nil
  | c :: l, h => .cons (h c (List.mem_cons_self ..)) (paired_map fun d hd => h d (List.mem_cons_of_mem _ hd))
theorem range_getD {α : Type} (l : List α) (d : α) : (List.range l.length).map (fun i => l.getD i d) = l := by
  apply List.ext_getElem
  · simp
  · intro i h1 h2
    simp at h1
    simp [h1]
theorem PB.list {N : Nat} {p : Array Nat} (h : PB N p) : p.toList.Perm (List.range N) := by
  have := Array.perm_iff_toList_perm.mp h.perm
  simpa using this
theorem call_sortedT : CallR X (.builtin "sorted") (rSortedT X.K) := by
  intro pins s σ H xs us Q I r h
  obtain ⟨p, rs, kss, rfl, hp, hn, hk, hne, q⟩ := h
  obtain ⟨u, rfl, ru⟩ := Vals.one r
  cases (show u = Value.ref p from ru)
  obtain ⟨its, r1, t1, _⟩ := I.list hp
  have hl : its.length = rs.length := r1.length.symm
  have kl : rs.length = kss.length := Paired.length hk
  have tup : ∀ i, i < rs.length -> ∃ a ks, rs.getD i .non = .ref a /\ kss.getD i [] = ks /\ its.getD i Value.none = .ref a /\ H a = some (.tup (ks.map V.int)) := fun i hi => by
    obtain ⟨ks, e, a, ea, ha⟩ := Paired.at hk (i := i) (a := rs[i]) (by simp [hi])
    obtain ⟨v, ev, rv⟩ := r1.get (i := i) (x := rs[i]) (by simp [hi])
    rw [ea] at rv
    refine ⟨a, ks, by simp [hi, ea], by rw [List.getD_eq_getElem?_getD, e]; rfl, ?_, ha⟩
    rw [List.getD_eq_getElem?_getD, ev]
    exact rv
  have tups : Paired (TupI s.heap) its kss := by
    have e1 := range_getD its Value.none
    have e2 := range_getD kss []
    rw [hl] at e1
    rw [<- kl] at e2
    rw [<- e1, <- e2]
    refine paired_map fun i hi => ?_
    obtain ⟨a, ks, _, e4, e5, e6⟩ := tup i (List.mem_range.mp hi)
    obtain ⟨_, us, ru, o, g, hc, n, hd⟩ := I.hok a _ e6
    rw [e4, e5]
    exact ⟨a, o, us.toArray, n, rfl, g, hc, hd, by simpa using intsAre_of ru⟩
  refine sorted_gen t1.isList (lex_ord kss) (by lia) (asks_tups tups hne) fun pm pb up => ?_
  obtain ⟨e, he⟩ := sortedAll_at s.heap its (outOf its pm).toArray
  have fr : s.heap.objs.size <= s.heap.objs.size + 1 := Nat.le_succ _
  have pl : ∀ i ∈ pm.toList, i < rs.length := fun i hi => by
    have := pb.list.mem_iff.mp hi
    rw [List.mem_range, hl] at this
    exact this
  have ls : pm.toList.length = rs.length := by rw [Array.length_toList, pb.size, hl]
  refine ⟨.ref (s.heap.objs.size + 1), upd H (s.heap.objs.size + 1) (.lst (pm.toList.map fun i => rs.getD i .non)), I.laid (t' := s.toks) (fun b o z => sortedAll_old z) fr ?_, rfl,
    q _ _ (pm.toList.map fun i => kss.getD i []) (paired_map fun i hi => ?_) ?_ ?_ (I.hok.fresh fr)⟩
  · refine ⟨?_, outOf its pm, e, paired_map fun i hi => ?_, he⟩
    · rw [List.length_map, ls, sizeLine_eq]; lia
    · obtain ⟨a, ks, e3, e4, e5, e6⟩ := tup i (pl i hi)
      rw [e3, e5]
      exact rfl
  · obtain ⟨a, ks, e3, e4, e5, e6⟩ := tup i (pl i hi)
    rw [e3, e4]
    exact ⟨a, rfl, e6⟩
  · have := pb.list.map fun i => kss.getD i []
    rw [hl, kl, range_getD] at this
    exact this
  · rw [List.pairwise_iff_getElem]
    intro i j hi hj hij
    rw [List.length_map] at hi hj
    have := up i j (by lia) (by rw [hl]; lia)
    simp only [List.getElem_map, Array.getElem_toList]
    have gi : pm.getD i 0 = pm[i] := by simp [Array.getD, show i < pm.size by rw [<- Array.length_toList]; exact hi]
    have gj : pm.getD j 0 = pm[j] := by simp [Array.getD, show j < pm.size by rw [<- Array.length_toList]; exact hj]
    rw [gi, gj] at this
    exact this
end
end L2
namespace L2
open PySem PySem.Spec PyProof.Rows
theorem for_seq {k : Kd} {K : PySem.W.Frag} {a : Addr} {xs : List V} {g : TG} {tb : TS} {D : Ends} {σ : St} {H : Hp} (Pv : Nat -> St -> Hp -> Prop) (h0 : Pv 0 σ H) (hl : ∀ i σ H, i <= xs.length -> Pv i σ H -> SqK k K H a xs)
    (hs : ∀ i x σ H, xs[i]? = some x -> Pv i σ H -> g x σ H fun σ2 H2 => tb { D with nx := Pv (i + 1), ct := Pv (i + 1), bk := D.nx } σ2 H2) (hd : ∀ σ H, Pv xs.length σ H -> D.nx σ H) :
    ∃ W : Nat -> Nat -> St -> Hp -> Prop, (∃ m, W 0 m σ H) /\ ∀ i m σ H, W i m σ H ->
      ((ItK k K a).stop i H /\ D.nx σ H) \/ ((ItK k K a).go i H /\ ∃ N : St -> Hp -> Prop, (∀ σ' H', N σ' H' -> ∃ m', m' < m /\ W (i + 1) m' σ' H') /\ ∀ x H', (ItK k K a).yld i H x H' -> g x σ H' fun σ2 H2 => tb { D with nx := N, ct := N, bk := D.nx } σ2 H2) := by
  cases k with
  | l => exact for_list Pv h0 hl hs hd
  | t => exact for_tup Pv h0 hl hs hd
section
variable {X : Cx}
end
section
open PySem.SeqAt
open PySem.AutoSeq1 (wpAny_loadPart')
open PySem.MeetsSeq PySem.MeetsSeq2 PySem.MeetsSeq3
end
section
variable {X : Cx}
end
section
variable {prog : Program} {w : World} {A : Around} {E : Value -> Shared -> Prop} {s : Shared} {it l : Addr} {its : Array Value}
end
section
variable {X : Cx}
end
section
variable {prog : Program} {w : World} {A : Around} {E : Value -> Shared -> Prop} {s : Shared} {a : Addr} {led : Bool} {ns : List Int}
end
section
variable {prog : Program} {w : World} {A : Around} {R : Result -> Shared -> Prop} {I : Addr} {fp wr : List Addr} {G : Array GenState -> Array GenState -> Prop} {n : Nat} {P : Nat -> Value -> Prop} {St : Nat -> Shared -> Prop}
end
section
variable {prog : Program} {w : World} {A : Around} {E : Value -> Shared -> Prop} {s : Shared}
set_option maxHeartbeats 8000000 in
end
section
variable {prog : Program} {w : World} {A : Around} {E : Value -> Shared -> Prop} {s : Shared} {it a : Addr} {o : Obj} {es : Array (Int × Value)} {ep i : Nat} {t : SetTable} {slot : Nat}
end
section
variable {prog : Program} {w : World} {A : Around} {E : Value -> Shared -> Prop} {s : Shared} {it a : Addr} {o : Obj} {es : Array (Int × Value)} {ep i : Nat} {t : SetTable} {slot : Nat}
end
section
variable {prog : Program} {w : World} {A : Around} {E : Value -> Shared -> Prop} {s : Shared} {a : Addr} {o : Obj} {es : Array (Int × Value)} {ep : Nat} {t : SetTable}
end
section
variable {prog : Program} {w : World} {A : Around} {E : Value -> Shared -> Prop} {s : Shared} {a : Addr}
end
section
variable {X : Cx}
end
section
variable {prog : Program} {w : World} {A : Around} {E : Value -> Shared -> Prop} {s : Shared}
theorem collect_tup {l : Addr} {vs : List Value} {Q : List Value -> Shared -> Prop} (hl : IsTup s.heap l vs.toArray) (hsz : vs.length <= sizeLine)
    (h : Q vs { s with heap := (s.heap.push (seqObj "list" #[] 0)).update s.heap.objs.size (Obj.mapSeq (· ++ vs.toArray)) }) : wpAny (model prog w) A (collect (.ref l)) Q E s := by
  obtain ⟨o, ho, hc, n, hd⟩ := id hl
  unfold collect
  refine wpAny_bind (wpAny_runValue (codeAny_builtin entry_proto_collect' ?_))
  show wpAny _ _ (do again (.builtin "list.__iadd__" ⟨[<- newList [], .ref l], []⟩)) _ _ s
  refine wpAny_bind (wpAny_newList (wpAny_pure ⟨Code.quiet_builtin _ (by decide +kernel), codeAny_builtin entry_list_iadd' ?_⟩))
  show wpAny _ _ (Builtin.List.listExtendWith (.ref s.heap.objs.size) (.ref l) (.ref s.heap.objs.size)) _ _ { s with heap := s.heap.push (seqObj "list" #[] 0) }
  have ho' : (s.heap.push (seqObj "list" #[] 0)).get? l = some o := Heap.get?_push_of_some _ ho
  unfold Builtin.List.listExtendWith
  refine wpAny_bind (wpAny_typeOf (T := "tuple") ⟨o, ho', hc⟩ ?_)
  rw [if_pos (by rw [show (Value.type "tuple" == Value.type "tuple") = true from rfl]; simp)]
  refine wpAny_bind (listItems_at ho' hd (wpAny_bind (listItems_at (xs := #[]) (n := 0) (Heap.get?_push_size _ rfl) rfl ?_)))
  rw [if_neg (by simp)]
  refine wpAny_bind (listUpdate_at (xs := #[]) (n := 0) (Heap.get?_push_size _ rfl) rfl (wpAny_pure ?_) (Nat.zero_le _) (by show (#[] ++ vs.toArray).size <= sizeLine + 1; simp only [Array.size_append, List.size_toArray, List.length_nil]; omega))
  show wpAny (model prog w) A (load s.heap.objs.size >>= _) Q E { s with heap := (s.heap.push (seqObj "list" #[] 0)).update s.heap.objs.size (Obj.mapSeq (· ++ vs.toArray)) }
  refine wpAny_bind (wpAny_load (get?_update_seq (Heap.get?_push_size _ rfl) _) ?_)
  show wpAny _ _ (pure ((#[] : Array Value) ++ vs.toArray).toList) Q E _
  rw [show ((#[] : Array Value) ++ vs.toArray).toList = vs by simp]
  exact wpAny_pure h
theorem sorted_tup {l : Addr} {vs : List Value} {ns : List Int} {Q : Value -> Shared -> Prop} (hl : IsTup s.heap l vs.toArray) (hI : IntsAre vs ns) (h64 : vs.length < 64)
    (h : ∀ (out : Array Value) (ms : List Int), IntsAre out.toList ms -> ms.Perm ns -> ms.Pairwise (· <= ·) -> Q (.ref (s.heap.objs.size + 1)) { s with heap := sortedAll s.heap vs out }) :
    wpAny (model prog w) A (call (.builtin "sorted") [.ref l]) Q E s := by
  refine Calls.call_function_entry kind_sorted plain_sorted entry_sorted (args_sorted1 _) ?_
  unfold Builtin.«sorted»
  refine wpAny_bind (m := checkCount "sorted" 1 1 _) (wpAny_pure (wpAny_bind (collect_tup hl (by rw [sizeLine_eq]; omega) (wpAny_bind (wpAny_newList ?_ (by rw [sizeLine_eq]; omega))))))
  have z1 : ((s.heap.push (seqObj "list" #[] 0)).update s.heap.objs.size (Obj.mapSeq (· ++ vs.toArray))).objs.size = s.heap.objs.size + 1 := by rw [Heap.size_update, size_push']
  have oL : (((s.heap.push (seqObj "list" #[] 0)).update s.heap.objs.size (Obj.mapSeq (· ++ vs.toArray))).push (seqObj "list" vs.toArray 0)).get? (s.heap.objs.size + 1) = some (seqObj "list" vs.toArray 0) := by
    rw [<- z1]; exact Heap.get?_push_size _ rfl
  show wpAny _ _ _ _ _ { s with heap := ((s.heap.push (seqObj "list" #[] 0)).update s.heap.objs.size (Obj.mapSeq (· ++ vs.toArray))).push (seqObj "list" vs.toArray 0) }
  rw [z1]
  refine wpAny_bind (wpAny_holding (wpAny_call_entry slot_list_sort ⟨_, oL, rfl⟩ entry_list_sort (list_sort_tree oL hI h64 fun out ms a1 a2 a3 => ⟨_, rfl, ?_⟩) (args_list_sort _)))
  exact wpAny_pure ⟨_, rfl, h out ms a1 a2 a3⟩
end
section
variable {X : Cx}
theorem call_sortedTI : CallR X (.builtin "sorted") (fun xs H Q => ∃ (p : Addr) (ns : List Int), xs = [.ref p] /\ SqT X.K H p (ns.map V.int) /\ ns.length < 64 /\ ∀ (l : Addr) (ms : List Int), ms.Perm ns -> ms.Pairwise (· <= ·) -> H l = none -> Q (.ref l) (upd H l (.lst (ms.map V.int)))) := by
  intro pins s σ H xs us Q I r h
  obtain ⟨p, ns, rfl, hp, hn, q⟩ := h
  obtain ⟨u, rfl, ru⟩ := Vals.one r
  cases (show u = Value.ref p from ru)
  obtain ⟨its, r1, t1, _⟩ := I.tuple hp
  have hl : its.length = ns.length := by have := r1.length; rw [List.length_map] at this; omega
  refine sorted_tup t1 (intsAre_of r1) (by omega) fun out ms a1 a2 a3 => ?_
  obtain ⟨e, he⟩ := sortedAll_at s.heap its out
  have fr : s.heap.objs.size <= s.heap.objs.size + 1 := Nat.le_succ _
  refine ⟨.ref (s.heap.objs.size + 1), upd H (s.heap.objs.size + 1) (.lst (ms.map V.int)), I.laid (t' := s.toks) (fun b o z => sortedAll_old z) fr ?_, rfl, q _ ms a2 a3 (I.hok.fresh fr)⟩
  refine ⟨?_, out.toList, e, vals_of_ints a1, by rw [he]⟩
  rw [List.length_map, a2.length_eq]
  exact Nat.le_trans (Nat.le_of_lt hn) (by decide)
end
end L2
namespace L2
open PySem PySem.W PyProof.Rows
section
variable {prog : Program} {w : World} {A : Around} {E : Value -> Shared -> Prop} {s : Shared} {κ : SortKind} {it : Array Keyed} {lt : Nat -> Nat -> Bool} {N : Nat}
end
end L2
namespace L2
open PySem PySem.W PyProof.Rows
section
variable {lt : Nat -> Nat -> Bool}
end
section
variable {prog : Program} {w : World} {A : Around} {E : Value -> Shared -> Prop} {s : Shared} {κ : SortKind} {it : Array Keyed} {lt : Nat -> Nat -> Bool} {N : Nat}
end
end L2
namespace L2
open PySem PySem.W PyProof.Rows
section
variable {prog : Program} {w : World} {A : Around} {E : Value -> Shared -> Prop} {s : Shared} {κ : SortKind} {it : Array Keyed} {lt : Nat -> Nat -> Bool} {N : Nat}
end
end L2
namespace L2
open PySem PySem.W PyProof.Rows
section
variable {prog : Program} {w : World} {A : Around} {E : Value -> Shared -> Prop} {s : Shared} {κ : SortKind} {it : Array Keyed} {lt : Nat -> Nat -> Bool} {N : Nat}
end
end L2
namespace L2
open PySem PySem.W PyProof.Rows
section
variable {prog : Program} {w : World} {A : Around} {E : Value -> Shared -> Prop} {s : Shared} {κ : SortKind} {it : Array Keyed} {lt : Nat -> Nat -> Bool} {N : Nat}
end
end L2
namespace L2
open PySem PySem.W PyProof.Rows
section
variable {prog : Program} {w : World} {A : Around} {E : Value -> Shared -> Prop} {s : Shared} {κ : SortKind} {it : Array Keyed} {lt : Nat -> Nat -> Bool} {N : Nat}
end
end L2
namespace L2
open PySem PySem.W PyProof.Rows
section
variable {prog : Program} {w : World} {A : Around} {E : Value -> Shared -> Prop} {s : Shared} {κ : SortKind} {it : Array Keyed} {lt : Nat -> Nat -> Bool} {N : Nat}
end
end L2
namespace L2
open PySem PySem.W PyProof.Rows
section
variable {prog : Program} {w : World} {A : Around} {E : Value -> Shared -> Prop} {s : Shared} {κ : SortKind} {it : Array Keyed} {lt : Nat -> Nat -> Bool} {N : Nat}
end
end L2
namespace L2
open PySem PySem.W PyProof.Rows
section
variable {prog : Program} {w : World} {A : Around} {E : Value -> Shared -> Prop} {s : Shared} {κ : SortKind} {it : Array Keyed} {lt : Nat -> Nat -> Bool} {N : Nat}
end
end L2
namespace L2
open PySem PySem.W PyProof.Rows
section
variable {prog : Program} {w : World} {A : Around} {E : Value -> Shared -> Prop} {s : Shared}
end
end L2
namespace L2
open PySem PySem.W PyProof.Rows
section
variable {X : Cx}
end
end L2
namespace L2
open PySem PySem.Spec PyProof.Rows
theorem sqT {K : PySem.W.Frag} {H H' : Hp} {a : Addr} {xs : List V} (e : Same H H') (h : SqT K H a xs) : SqT K H' a xs := e.seqK (k := .t) h
section
variable {X : Cx}
def rCatS (K : PySem.W.Frag) : R2 := fun x y H Q => ∃ a b xs ys, x = .ref a /\ y = .ref b /\ SqT K H a xs /\ SqT K H b ys /\ xs.length + ys.length <= sizeLine /\ ∀ p H', Same H H' -> SqT K H' p (xs ++ ys) -> Q (.ref p) H'
theorem op_catS : OpR X (binaryOp .Add) (rCatS X.K) := by
  intro pins s σ H x y v u Q I rx ry h
  obtain ⟨a, b, xs, ys, rfl, rfl, ha, hb, hz, q⟩ := h
  by_cases hx : xs = []
  · subst hx
    exact op_cat0 pins s σ H _ _ v u Q I rx ry ⟨a, b, ys, rfl, rfl, ha, hb, q b H (Same.refl H) hb⟩
  · refine op_catT pins s σ H _ _ v u Q I rx ry ⟨a, b, xs, ys, rfl, rfl, ha, hb, hx, hz, fun hy => ?_, fun hy p hp => q p _ (Same.new hp) (SqT.of upd_same)⟩
    subst hy
    exact q a H (Same.refl H) (by rw [List.append_nil]; exact ha)
end
end L2
namespace L2
open PySem PySem.W PyProof.Rows
section
variable {X : Cx}
end
section
variable {prog : Program} {w : World} {A : Around}
end
section
variable {X : Cx}
end
end L2
namespace L2
open PySem PySem.Spec PyProof.Rows
section
variable {X : Cx}
end
end L2
namespace L2
open PySem PySem.W PyProof.Rows
section
variable {prog : Program} {w : World} {d : Addr} {es : Array DictEntry} {ep : Nat} {o : Obj}
end
section
variable {X : Cx}
end
end L2
namespace L2
open PySem PySem.Spec PyProof.Rows
section
variable {X : Cx}
theorem range_any_get (bs : List Bool) : (List.range bs.length).any (fun i => bs.getD i false) = bs.any id := by
  rw [Bool.eq_iff_iff, List.any_eq_true, List.any_eq_true]
  constructor
  · rintro ⟨i, hi, h⟩
    have hi' := List.mem_range.mp hi
    refine ⟨bs[i], List.getElem_mem hi', ?_⟩
    simpa [List.getD, hi'] using h
  · rintro ⟨x, hx, h⟩
    obtain ⟨i, hi, e⟩ := List.mem_iff_getElem.mp hx
    refine ⟨i, List.mem_range.mpr hi, ?_⟩
    simp [List.getD, hi, e]
    exact h
theorem call_any (hc : X.calm = true) : CallR X (.builtin "any") (fun xs H Q => ∃ (p : Addr) (bs : List Bool), xs = [.ref p] /\ SqL X.K H p (bs.map V.bl) /\ Q (.bl (bs.any id)) H) := by
  intro pins s σ H xs us Q I r h
  obtain ⟨p, bs, rfl, hp, q⟩ := h
  obtain ⟨u, rfl, ru⟩ := Vals.one r
  cases (show u = Value.ref p from ru)
  obtain ⟨its, r1, t1, _⟩ := I.list hp
  have hh : X.A.in1.handled = none := I.ok.hd hc
  have hlt : p < s.heap.objs.size := by obtain ⟨_, e, _⟩ := t1.isList; exact Heap.lt_size e
  refine call_any_walk (wpAny_pyIter_list t1.isList ⟨_, _, _, _, _, _, fun i => bs.getD i false, rfl, Walks.list hh _ p (Nat.ne_of_lt hlt) its.toArray, ⟨⟨_, Heap.get?_push_size _ rfl, rfl, rfl⟩, t1.isList.push _⟩, ?_, ?_⟩)
  · intro i v s' Q' E' e hq
    rw [bools_at r1 e]
    exact wpAny_truthy_bool hq
  · intro h' tk hk
    have hl : its.toArray.size = bs.length := by have := r1.length; simp at this ⊢; omega
    rw [hl, range_any_get]
    exact ⟨.bl _, H, I.kept (kept_iter hk), rfl, q⟩
def rInsert : V -> List V -> Hp -> VK -> Prop := fun x vs H Q => ∃ (l : Addr) (xs : List V) (i : Nat) (y : V), x = .ref l /\ vs = [.int (i : Int), y] /\ H l = some (.lst xs) /\ i <= xs.length /\ xs.length < 1000 /\ Q .non (upd H l (.lst (xs.take i ++ y :: xs.drop i)))
theorem vals_take {xs : List V} {us : List Value} (r : Vals xs us) (i : Nat) : Vals (xs.take i) (us.take i) := by
  induction r generalizing i with
  | nil => simp; exact .nil
  | cons a t ih =>
    cases i with
    | zero => exact .nil
    | succ i => exact .cons a (ih i)
theorem vals_drop {xs : List V} {us : List Value} (r : Vals xs us) (i : Nat) : Vals (xs.drop i) (us.drop i) := by
  induction r generalizing i with
  | nil => simp; exact .nil
  | cons a t ih =>
    cases i with
    | zero => exact .cons a t
    | succ i => exact ih i
theorem mt_insert : MtM X "list.insert" rInsert := by
  intro pins s σ H x vs v us Q I rx rv h
  obtain ⟨l, xs, i, y, rfl, rfl, hH, hi, hz, q⟩ := h
  cases rx
  obtain ⟨u1, u2, rfl, r1, r2⟩ := Vals.two rv
  obtain ⟨t, rfl⟩ := r1
  obtain ⟨z, its, n, r, hl, e⟩ := I.lstM hH
  have sl : (1000 : Nat) <= sizeLine := by decide
  have hs : its.toArray.size <= sizeLine := by rw [List.size_toArray, <- hl]; exact z
  have fin : ∀ ii : Int, ii = (i : Int) -> wpAny (model X.prog X.w) X.A (call (.builtin "list.insert") [.ref l, .int ii t, u2]) (EP X pins σ Q) X.xe s := by
    intro ii hii
    have hfit : ¬(!Builtin.List.listFitsIndex ii) = true := by
      unfold Builtin.List.listFitsIndex
      simp
      omega
    refine call_meets F.slot_list_insert ⟨_, e, rfl⟩ F.entry_list_insert (F.args_list_insert_3 _ _ _) (AutoSeq1.list_insert_list_int_val_1 l its.toArray n ii t u2 hfit hs) ⟨e, ?_⟩
    refine ⟨.non, _, I.lset (its' := its.take i ++ u2 :: its.drop i) hH e ?_ ((vals_take r i).append (.cons r2 (vals_drop r i))) ?_, rfl, q⟩
    · dsimp only
      rw [if_neg (by omega), show ii.toNat = i by omega, List.size_toArray, Nat.min_eq_left (by omega)]
      apply Array.ext'
      simp
      exact List.take_of_length_le (by rw [List.length_drop]; exact Nat.le_refl _)
    · rw [List.length_append, List.length_cons, List.length_take, List.length_drop]
      omega
  exact fin _ rfl
def isK (k : Int) (v : Value) : Bool := match v with | .int a _ => a == k | _ => false
theorem ints_at {ns : List Int} {its : List Value} (r : Vals (ns.map V.int) its) {m : Nat} (hm : m < its.length) : ∃ t a, ns[m]? = some a /\ its[m] = .int a t := by
  have hl := r.length
  rw [List.length_map] at hl
  have e : (ns.map V.int)[m]? = some (V.int ns[m]) := by rw [List.getElem?_map, List.getElem?_eq_getElem (by omega)]; rfl
  obtain ⟨u, hu, t, ru⟩ := r.get e
  rw [List.getElem?_eq_getElem hm] at hu
  exact ⟨t, ns[m], List.getElem?_eq_getElem (by omega), (Option.some.inj hu).trans ru⟩
end
end L2
namespace L2
open PySem PySem.Spec PyProof.Rows PySem.MeetsSeq
theorem wpAny_forIn_rng {M : Model} {A : Around} {E : Value -> Shared -> Prop} {s : Shared} {β : Type} {n : Nat} (f : Nat -> β -> Sem (ForInStep β)) (I : List Nat -> β -> Shared -> Prop) (Q : β -> Shared -> Prop)
    (turn : ∀ x rest b s, I (x :: rest) b s -> wpAny M A (f x b) (fun r s' => match r with | .yield b' => I rest b' s' | .done b' => Q b' s') E s)
    (fin : ∀ b s, I [] b s -> Q b s) (b : β) (h : I (List.range' 0 n) b s) : wpAny M A (forIn ([:n] : Std.Legacy.Range) b f) Q E s := by
  rw [Std.Legacy.Range.forIn_eq_forIn_range']
  have hsz : ([:n] : Std.Legacy.Range).size = n := by simp [Std.Legacy.Range.size]
  show wpAny M A (forIn (List.range' 0 ([:n] : Std.Legacy.Range).size 1) b f) Q E s
  rw [hsz]
  exact wpAny_forIn_list f I Q turn fin _ b h
theorem tuple_index (l : Addr) (items : Array Value) (n : Nat) (dd : Option Addr) (sl : Array (Option Value)) (x : Value) (e : Value -> Bool) (he : ∀ y, y ∈ items -> EqGives y x (e y)) (j : Nat) (hj : j < items.size) (hit : e items[j] = true) (hno : ∀ m (hm : m < items.size), m < j -> e items[m] = false) :
    Meets (Builtin.«tuple.index» ⟨[.ref l, x], []⟩)
      (fun _ R s => s.heap.get? l = some { cls := .type "tuple", dict := dd, data := .seq items n, slots := sl } /\ R (.ok (.ret (.int j s.toks))) { s with toks := s.toks + 1 }) :=
  .of_wp fun prog w A R s h => by
    obtain ⟨hp, g, d, tk, os⟩ := s; obtain ⟨hl, h⟩ := h
    wp_walk using AutoSeq1.wpAny_loadPart' hl, wpAny_forIn_rng _ (fun rest b s' => b = (none, ()) /\ s' = ⟨hp, g, d, tk, os⟩ /\ ∃ i, i <= j /\ rest = List.range' i (items.size - i)) _
    case turn =>
      rintro m rest b s' ⟨rfl, rfl, i, hi, er⟩
      rw [show items.size - i = (items.size - i - 1) + 1 by omega, List.range'_succ] at er
      injection er with e1 e2
      subst e1
      have hlt : m < items.size := by omega
      rw [Array.getElem?_eq_getElem hlt]
      refine wpAny_bind (he _ (Array.getElem_mem hlt) prog w _ _ _ _ ?_)
      by_cases c : m = j
      · subst c
        rw [hit]
        wp_walk
        exact ⟨_, rfl, h⟩
      · rw [hno m hlt (by omega)]
        wp_walk
        exact ⟨rfl, rfl, m + 1, by omega, by rw [e2]; congr 1⟩
    case fin =>
      rintro b s' ⟨rfl, rfl, i, hi, er⟩
      have := congrArg List.length er
      simp at this
      omega
    case h => exact ⟨rfl, rfl, 0, Nat.zero_le _, by rw [Nat.min_self]; rfl⟩
section
variable {X : Cx}
def rIndexT (K : PySem.W.Frag) : V -> List V -> Hp -> VK -> Prop := fun x vs H Q => ∃ (l : Addr) (ns : List Int) (k : Int) (j : Nat), x = .ref l /\ vs = [.int k] /\ SqT K H l (ns.map V.int) /\ ns[j]? = some k /\ (∀ m, m < j -> ns[m]? ≠ some k) /\ Q (.int (j : Int)) H
theorem mt_tindex : MtR X "tuple.index" (rIndexT X.K) := by
  intro pins s σ H x vs v us Q I rx rv h
  obtain ⟨l, ns, k, j, rfl, rfl, hH, hj, hno, q⟩ := h
  cases rx
  obtain ⟨u, rfl, t, rfl⟩ := rv.one
  obtain ⟨its, r, ⟨o, ho, hc, n, hd⟩, _⟩ := I.tuple hH
  obtain ⟨oc, od, dt, sl⟩ := o
  have e1 : oc = .type "tuple" := hc
  have e2 : dt = .seq its.toArray n := hd
  subst e1 e2
  have hl : ns.length = its.length := by have := r.length; rwa [List.length_map] at this
  have jl : j < ns.length := (List.getElem?_eq_some_iff.mp hj).1
  refine call_meets F.slot_tuple_index ⟨_, ho, rfl⟩ F.entry_tuple_index (F.args_tuple_index_2 _ _) (tuple_index l its.toArray n od sl (.int k t) (isK k) ?_ j (by rw [List.size_toArray]; omega) ?_ ?_) ⟨ho, ?_⟩
  · intro y hy
    obtain ⟨m, hm, rfl⟩ := List.mem_iff_getElem.mp (show y ∈ its by simpa using hy)
    obtain ⟨t', a, _, e2⟩ := ints_at r hm
    rw [e2]
    exact MeetsSeq.EqGives.int a k t' t
  · show isK k its[j] = true
    obtain ⟨t', a, e1, e2⟩ := ints_at r (show j < its.length by omega)
    rw [e2]
    rw [hj] at e1
    cases e1
    exact beq_self_eq_true k
  · intro m hm hmj
    show isK k its[m] = false
    obtain ⟨t', a, e1, e2⟩ := ints_at r (show m < its.length by omega)
    rw [e2]
    show (a == k) = false
    rw [beq_eq_false_iff_ne]
    intro z
    exact hno m hmj (by rw [e1, z])
  · exact ⟨.int (j : Int), H, I.tok _, ⟨_, rfl⟩, q⟩
end
structure SrcD (K : PySem.W.Frag) (mg : Str -> Option Value) (x : Str) (st : Stmt) (ps : List Str) : Prop where
  ex : ∃ (f T : Addr) (oc : Value) (od : Option Addr) (kV doc pm : Value) (an : Option Addr) (cdv ct : Value) (osl : Array (Option Value)) (o : Obj) (n : Nat),
    K.lookup f = some ⟨oc, od, .func (PySem.W.fnOf x x (defArgs st) (defBody st) (defScope st) (.ref T) kV doc pm an cdv ct), osl⟩ /\ PySem.W.codeIn K cdv x = true /\ PySem.W.keepIn K (.ref f) = true /\ mg x = some (.ref f) /\
    K.lookup T = some o /\ o.data = .seq #[.none] n /\
    (∀ us : List Value, us.length = ps.length -> ∃ k : Option (Array Value) -> Sem (List (Str × Value)), bindArgs (PySem.W.fnOf x x (defArgs st) (defBody st) (defScope st) (.ref T) kV doc pm an cdv ct) ⟨us, []⟩ = seqItems? (.ref T) >>= k /\ k (some #[.none]) = pure (ps.zip us)) /\
    (∀ us : List Value, us.length + 1 = ps.length -> ∃ k : Option (Array Value) -> Sem (List (Str × Value)), bindArgs (PySem.W.fnOf x x (defArgs st) (defBody st) (defScope st) (.ref T) kV doc pm an cdv ct) ⟨us, []⟩ = seqItems? (.ref T) >>= k /\ k (some #[.none]) = pure (ps.zip (us ++ [.none])))
structure DefD (P : Program) (w : World) (K : PySem.W.Frag) (mg : Str -> Option Value) (base : Heap) (k : Nat) (x : Str) (ps : List Str) (sp : Sp) : Prop where
  ex : ∃ f fd, FnOk P w K mg base (CXr P w) k f fd ps sp /\ Binds K fd ps [] /\ Binds K fd ps [.none] /\ mg x = some (.ref f) /\ PySem.W.keepIn K (.ref f) = true
theorem SrcD.defX {P : Program} {w : World} {K : PySem.W.Frag} {mg : Str -> Option Value} {base : Heap} {k : Nat} {x : Str} {st : Stmt} {N ps : List Str} {sp : Sp} (S : SrcD K mg x st ps) (sc : FnScope N ps (defScope st)) (len : ∀ vs H Q E, sp vs H Q E -> vs.length = ps.length)
    (hbody : ∀ (f : Addr) (cdv : Value) (A : Around) (outer : List Env) (s : Shared) (H : Hp) (vs : List V) (Q : VK) (E : XK), Room k (A.deeper (envOfC x (defScope st) s.heap.objs.size f cdv)) -> sp vs H Q E ->
      ∃ t, PSs (cxOf (CXr P w) P w K mg base N x (defScope st) f cdv A outer s H E) (defBody st) t /\ t { nx := fun _ H' => Q .non H', rt := Q } (start N vs) H) : DefD P w K mg base (k + 1) x ps sp := by
  obtain ⟨f, T, oc, od, kV, doc, pm, an, cdv, ct, osl, o, n, lk, hcd, kp, m, hT, hd, b0, b1⟩ := S.ex
  refine ⟨f, _, fn_of lk hcd sc len (hbody f cdv), fun s us X hl => ?_, fun s us X hl => ?_, m, kp⟩
  · rw [List.append_nil] at hl ⊢
    obtain ⟨k, e1, e2⟩ := b0 us hl
    exact PySem.W.binds_K X rfl hT hd e1 e2
  · obtain ⟨k, e1, e2⟩ := b1 us (by rw [List.length_append] at hl; exact hl)
    exact PySem.W.binds_K X rfl hT hd e1 e2
theorem pe_defD {X : Cx} {k : Nat} {x : Str} {ps : List Str} {sp : Sp} {e : Expr} {es : List Expr} {t : TA} {p pos : Pos} (D : DefD X.prog X.w X.K X.mg X.base k x ps sp) (hr : Room k X.A) (hg : Gl X x) (ha : PA X (e :: es) t)
    (hdb : (x == ("__debug__" : Str)) = false := by decide) (he : starEach (e :: es) X.env = (false, eval e X.env) :: starEach es X.env := by rfl) (hpl : (backTo pos (starEach es X.env)).any (·.1) = false := by rfl) :
    PE X (.Call (.Name x p) (e :: es) [] pos) (tCall sp [] E0 t) := by
  obtain ⟨f, fd, F, b, _, m, kp⟩ := D.ex
  exact pe_call F hr hg m kp b .nil passX ha hdb he hpl
end L2
namespace L2
open PySem PySem.Spec PyProof.Rows PySem.MeetsSeq
def FzT (H : Hp) (a : Addr) (xs : List V) : Prop := ∃ o : Obj, o.cls = .type "tuple" /\ o.dict = none /\ H a = some (.frz o (.tup xs))
theorem FzT.sq {K : PySem.W.Frag} {H : Hp} {a : Addr} {xs : List V} (h : FzT H a xs) : SqT K H a xs := let ⟨o, _, _, e⟩ := h; .inl (.inr ⟨o, e⟩)
theorem FzT.same {H H' : Hp} {a : Addr} {xs : List V} (h : FzT H a xs) (s : Same H H') : FzT H' a xs := let ⟨o, c, d, e⟩ := h; ⟨o, c, d, s _ _ e⟩
theorem FzT.new {H : Hp} {a : Addr} {xs : List V} {o : Obj} (c : o.cls = .type "tuple") (d : o.dict = none) : FzT (upd H a (.frz o (.tup xs))) a xs := ⟨o, c, d, upd_same⟩
section
variable {X : Cx}
def tBMF (r : V -> List V -> Hp -> VK -> Prop) (to : TE) (t : TA) : TE := fun σ H Q => to σ H fun x H1 => (∃ a xs, x = .ref a /\ FzT H1 a xs) /\ t σ H1 fun xs H2 => r x xs H2 Q
variable {o e : Expr} {es : List Expr} {to : TE} {t : TA} {name : Str} {apos cpos : Pos} {id : String} {r : V -> List V -> Hp -> VK -> Prop}
theorem pe_bmF (pa : PlainAttrs "tuple") (slot : Slot "tuple" name id) (hty : typeOf (.builtin id) = pure (.type "method_descriptor")) (hm : MtR X id r) (ho : PE X o to) (ha : PA X (e :: es) t)
    (hbase : attributeBase o name X.env (eval o X.env) = eval o X.env := by rfl)
    (hfew : ((backTo cpos (starEach (e :: es) X.env)).all (fun x => !x.1) && (backToKw cpos (keywordEach [] X.env)).all (fun x => x.1.isSome)
      && decide ((e :: es).length + ([] : List Keyword).length + (if ([] : List Keyword).isEmpty then 0 else 1) < 30)) = true := by rfl)
    (hline : (apos.endLine == cpos.line) = true := by rfl) (hs : starEach (e :: es) X.env = (false, eval e X.env) :: starEach es X.env := by rfl) (hplain : (backTo cpos (starEach es X.env)).any (·.1) = false := by rfl) :
    PE X (.Call (.Attribute o name apos) (e :: es) [] cpos) (tBMF r to t) := by
  intro pins s σ H Q I h
  refine wpAny_Call_method_late hbase hfew hline rfl (thn (ho pins s σ H _ I h) fun v s1 ⟨x, H1, I1, r1, ⟨a, xs, ex, ob, oc, od, eH⟩, q1⟩ => ?_)
  subst ex
  have hg : s1.heap.get? a = some ob := (I1.hok a _ eH).1
  cases (show v = Value.ref a from r1)
  refine ⟨"tuple", id, pa, slot, hty, ⟨ob, hg, oc⟩, (fun b eb => by cases eb; exact ⟨ob, hg, od⟩), ?_⟩
  have hA := ha cpos pins s1 σ H1 _ I1 q1
  rw [hs] at hA ⊢
  refine Calls.callWith_builtin (by show (false || (backTo cpos (starEach es X.env)).any (·.1)) = false; rw [hplain] <;> rfl) (Calls.evalArgs_plain ?_)
  exact thn hA fun us s2 ⟨vs, H2, I2, r2, q2⟩ => hm pins s2 σ H2 (.ref a) vs (.ref a) us Q I2 rfl r2 q2
theorem call_tupleF : CallR X (.type "tuple") (fun xs H Q => ∃ p ys, xs = [.ref p] /\ ((SqL X.K H p ys /\ ∀ l o, o.cls = .type "tuple" -> o.dict = none -> H l = none -> Q (.ref l) (upd H l (.frz o (.tup ys)))) \/ (SqT X.K H p ys /\ Q (.ref p) H))) := by
  intro pins s σ H xs us Q I r h
  obtain ⟨p, ys, rfl, h⟩ := h
  obtain ⟨u, rfl, rx⟩ := vals1 r
  cases rx
  rcases h with ⟨hq, q⟩ | ⟨hq, q⟩
  · obtain ⟨its, r', pl, hz⟩ := I.list hq
    have hlen := r'.length
    refine call_tuple_list pl.isList (fun h' kp => ?_) (by simp only [List.size_toArray] <;> lia)
    have I1 : Inv X pins σ H { s with heap := h' } := I.kept (t' := s.toks) kp
    have I2 : Inv X pins σ (upd H h'.objs.size (.frz { cls := .type "tuple", data := .seq its.toArray } (.tup ys))) { s with heap := h'.push { cls := .type "tuple", data := .seq its.toArray } } :=
      I1.laid (t' := s.toks) (fun b o e => Heap.get?_push_of_some _ e) (Nat.le_refl _) (show ObjOk X.prog X.w _ _ _ (.frz _ (.tup ys)) from ⟨Heap.get?_push_size _ rfl, hz, its, r', IsTup.new _ _⟩)
    exact ⟨.ref h'.objs.size, _, I2, rfl, q _ _ rfl rfl (I1.hok.fresh (Nat.le_refl _))⟩
  · obtain ⟨its, r', pl, hz⟩ := I.tuple hq
    exact call_tuple_same pl ⟨.ref p, H, I, rfl, q⟩
theorem call_tuple_rngF (hc : X.calm = true) : CallR X (.type "tuple") (fun xs H Q => ∃ (p : Addr) (n : Nat), xs = [.ref p] /\ H p = some (.rng 0 n) /\ n <= 1000 /\ ∀ l o, o.cls = .type "tuple" -> o.dict = none -> H l = none -> Q (.ref l) (upd H l (.frz o (.tup (upN n))))) := by
  intro pins s σ H xs us Q I r h
  obtain ⟨p, n, rfl, hp, hn, q⟩ := h
  obtain ⟨u, rfl, ru⟩ := Vals.one r
  cases (show u = Value.ref p from ru)
  obtain ⟨t1, t2, t3, e⟩ := I.hok p _ hp
  refine callType_new F.called_tuple (by decide) (F.typeCall_tuple_1 _) (F.newCall_tuple_1 _) (fun obj => F.args_object_init_2 obj _) F.entry_tuple_new
    (new_tuple_range p 0 n 1 t1 t2 t3 n (small_one (by decide) (by decide) (by lia) (by lia)) (size1 n) (by lia)) ⟨⟨I.ok.hd hc, e⟩, fun h' tk acc hk hz hacc => ⟨⟨_, Heap.get?_push_size _ rfl, rfl⟩, ?_⟩⟩
  have ge : s.heap.objs.size <= h'.objs.size := Nat.le_of_lt hz
  refine ⟨.ref h'.objs.size, upd H h'.objs.size (.frz { cls := .type "tuple", data := .seq acc } (.tup (upN n))), I.laid (fun b o e => Heap.get?_push_of_some _ (hk b o e)) ge ?_, rfl, q _ _ rfl rfl (I.hok.fresh ge)⟩
  refine ⟨Heap.get?_push_size _ rfl, by unfold upN; rw [List.length_map, List.length_range]; exact Nat.le_trans hn (by decide), acc.toList, items_up hacc, _, Heap.get?_push_size _ rfl, rfl, 0, by simp⟩
def rIsTsF (K : PySem.W.Frag) : List V -> Hp -> VK -> Prop := fun xs H Q => ∃ (a p : Addr) (cs ys : List V) (T : String) (b : Bool), xs = [.ref a, .ref p] /\ SqT K H p cs /\ ((H a = some (.lst ys) /\ T = "list") \/ (FzT H a ys /\ T = "tuple")) /\ (∀ us, Vals cs us -> PySem.W.kitAny K (.type T) us = some b) /\ Q (.bl b) H
theorem call_isTsF : CallR X (.builtin "isinstance") (rIsTsF X.K) := by
  intro pins s σ H xs us Q I r h
  obtain ⟨a, p, cs, ys, T, b, rfl, hp, ha, e, q⟩ := h
  obtain ⟨v1, v2, rfl, r1, r2⟩ := Vals.two r
  cases (show v1 = Value.ref a from r1)
  cases (show v2 = Value.ref p from r2)
  obtain ⟨its, rv, ⟨o, ho, hc, n, hd⟩, _⟩ := I.tuple hp
  obtain ⟨oc, od, dt, sl⟩ := o
  have e1 : oc = .type "tuple" := hc
  have e2 : dt = .seq its.toArray n := hd
  subst e1 e2
  rcases ha with ⟨ea, rfl⟩ | ⟨⟨ob, c1, _, ea⟩, rfl⟩
  · obtain ⟨_, _, n, _, h1⟩ := (show ObjOk X.prog X.w H s.heap a (.lst ys) from I.hok a _ ea)
    exact PySem.W.kia_tup PySem.W.kitx_list I.kIn ⟨_, h1, rfl⟩ ho (e its rv) (by intro z; cases z) fun tk => ⟨.bl b, H, I.tok _, rfl, q⟩
  · exact PySem.W.kia_tup PySem.W.kitx_tuple I.kIn ⟨ob, (I.hok a _ ea).1, c1⟩ ho (e its rv) (by intro z; cases z) fun tk => ⟨.bl b, H, I.tok _, rfl, q⟩
end
end L2
namespace HT
open PySem PySem.Spec PyProof.Rows
section
variable {prog : Program} {w : World} {A : Around} {E : Value -> Shared -> Prop} {s : Shared}
end
end HT
namespace L2
open PySem PySem.Spec PyProof.Rows
section
variable {X : Cx}
end
end L2
namespace L2
open PySem PySem.Spec PyProof.Rows
section
open PySem.SeqAt
open PySem.AutoSeq1 (wpAny_loadPart')
open PySem.MeetsSeq PySem.MeetsSeq2 PySem.MeetsSeq3
end
end L2
namespace L2
open PySem PySem.W PyProof.Rows
section
variable {prog : Program} {w : World} {A : Around} {E : Value -> Shared -> Prop} {s : Shared}
end
section
variable {X : Cx}
end
end L2
namespace L2
open PySem PySem.Spec PyProof.Rows
section
variable {env : Env} {C : Addr} {names : List (Str × NameKind)} {x : Str} {d : Addr}
end
section
variable {X : Cx} {scope : Scope} {N' : List Str} {fr : List (Option Nat)} {pins : List (Addr × Obj)} {σ : St} {H : Hp} {s : Shared} {fp : List Addr}
end
section
variable {X : Cx} {scope : Scope} {N' : List Str} {fr : List (Option Nat)} {pins : List (Addr × Obj)} {σ : St} {H : Hp} {s : Shared} {fp : List Addr} {it : Addr} {tn : Nat -> Heap -> Prop} {J : It}
  {elt tg iter : Expr} {ifs : List Expr} {g : TG} {tt : TT} {te : TE} {pos : Pos} {fin : List V -> Hp -> Prop} {W : Nat -> Nat -> List V -> St -> Hp -> Prop} {RR : Value -> Addr -> Result -> Shared -> Prop} {E : Value -> Shared -> Prop}
end
end L2
namespace L2
open PySem PySem.Spec PyProof.Rows PySem.MeetsSeq PySem.AutoSeq1
end L2
namespace L2
open PySem PySem.Spec PyProof.Rows
section
variable {X : Cx}
theorem call_intB : CallR X (.type "int") (fun xs H Q => ∃ b : Bool, xs = [.bl b] /\ Q (.int (if b = true then 1 else 0)) H) := by
  intro pins s σ H xs us Q I r h
  obtain ⟨b, rfl, q⟩ := h
  obtain ⟨u, rfl, ru⟩ := Vals.one r
  cases (show u = Value.bool b from ru)
  exact call_int_bool ⟨.int _, H, I.kept (t' := s.toks + 1) fun b o e => e, ⟨_, rfl⟩, q⟩
end
def rLenK (K : PySem.W.Frag) : List V -> Hp -> VK -> Prop := fun xs H Q => ∃ p ys, xs = [.ref p] /\ (SqL K H p ys \/ SqT K H p ys) /\ Q (.int ys.length) H
def rIsiK (K : PySem.W.Frag) : List V -> Hp -> VK -> Prop := fun xs H Q => ∃ x c t u b, xs = [x, c] /\ RelV c u /\ TyOf K H x t /\ PySem.W.kitOne K t u = some b /\ Q (.bl b) H
def rTupOfK (K : PySem.W.Frag) : List V -> Hp -> VK -> Prop := fun xs H Q => ∃ p ys, xs = [.ref p] /\ ((SqL K H p ys /\ ∀ l, H l = none -> Q (.ref l) (upd H l (.tup ys))) \/ (SqT K H p ys /\ Q (.ref p) H))
def rListOfK (K : PySem.W.Frag) : List V -> Hp -> VK -> Prop := fun xs H Q => ∃ p ys, xs = [.ref p] /\ (SqL K H p ys \/ SqT K H p ys) /\ ∀ l, H l = none -> Q (.ref l) (upd H l (.lst ys))
theorem seq_abs {A B : TS} {D : Ends} {σ : St} {H : Hp} (h : ∀ M : St -> Hp -> Prop, (∀ σ H, B D σ H -> M σ H) -> A { D with nx := M } σ H) : tSeq A B D σ H := h _ fun _ _ z => z
section
variable {X : Cx} (K : PySem.W.Frag)
theorem ix_listK (h : X.K = K := by rfl) : IxR X (rIxL K) := h ▸ ix_list
theorem ix_tupK (h : X.K = K := by rfl) : IxR X (rIxT K) := h ▸ ix_tup
theorem sl_listK (h : X.K = K := by rfl) : SlR X (rSlL K) := h ▸ sl_list
theorem sl_tupK (h : X.K = K := by rfl) : SlR X (rSlT K) := h ▸ sl_tup
theorem call_lenK (h : X.K = K := by rfl) : CallR X (.builtin "len") (rLenK K) := h ▸ call_len_seq
theorem call_isiK (h : X.K = K := by rfl) : CallR X (.builtin "isinstance") (rIsiK K) := h ▸ call_isinst
theorem call_tuple_ofK (h : X.K = K := by rfl) : CallR X (.type "tuple") (rTupOfK K) := h ▸ call_tuple_of
theorem call_list_ofK (h : X.K = K := by rfl) : CallR X (.type "list") (rListOfK K) := h ▸ call_list_of
theorem op_neNilK (hu : X.A.units + 66 < cLine) (h : X.K = K := by rfl) : OpR X (compareOp .NotEq) (rNil K true) := h ▸ op_neNil hu
theorem op_eqSK (hu : X.A.units + 66 < cLine) (h : X.K = K := by rfl) : OpR X (compareOp .Eq) (rSame K true) := h ▸ op_eqS hu
theorem op_catAK (h : X.K = K := by rfl) : OpR X (binaryOp .Add) (rCatA K) := h ▸ op_catA
theorem pi_seqK {tg : Expr} (k : Kd) {l : Expr} {tl : TE} (hl : PE X l tl) (h : X.K = K := by rfl) : PI X tg l (iSeq k K tl) := h ▸ pi_seq k hl
theorem pg_tupK (n : Nat) {es : List Expr} {k : Nat} {t : TGs} {pos : Pos} (hc : X.calm = true) (h : PGs X es t)
    (hn : (assignEach es X.env).length = n := by rfl) (hst : (assignEach es X.env).findIdx? (·.1) = none := by rfl) (hK : X.K = K := by rfl) : PG X (.Tuple es k pos) (gTup K n t) := hK ▸ pg_tup hc h hn hst
end
section
variable {X : Cx}
end
section
variable {X : Cx}
end
section
variable {X : Cx} {m : Str} {apos pos : Pos} {o : Expr} {ta : TE}
end
section
variable {X : Cx}
end
section
variable {X : Cx}
end
end L2
namespace L2
open PySem PySem.W PyProof.Rows
section
variable {X : Cx}
end
end L2
namespace L2
open PySem PySem.W PyProof.Rows
section
variable {prog : Program} {w : World} {A : Around} {E : Value -> Shared -> Prop} {s : Shared}
end
end L2
namespace L2
open PySem PySem.W PyProof.Rows
section
variable {X : Cx}
theorem all_same {α : Type} [DecidableEq α] (d : α) {l m : List α} {n k : Nat} (hn : n = l.length) (hk : k = m.length) : ((List.range (min n k)).all (fun i => decide (l.getD i d = m.getD i d)) && n == k) = decide (l = m) := by
  subst hn hk
  rw [Bool.eq_iff_iff, Bool.and_eq_true, List.all_eq_true, beq_iff_eq, decide_eq_true_iff]
  constructor
  · rintro ⟨h, e⟩
    refine List.ext_getElem e fun i h1 h2 => ?_
    have := of_decide_eq_true (h i (List.mem_range.mpr (by lia)))
    simpa [h1, h2] using this
  · rintro rfl
    exact ⟨fun i _ => decide_eq_true rfl, rfl⟩
theorem eqV_int (i j : Int) : eqV (.int i) (.int j) = decide (i = j) := by
  unfold eqV
  rw [Bool.eq_iff_iff, beq_iff_eq, decide_eq_true_iff]
end
end L2
namespace L2
open PySem PySem.W PyProof.Rows
section
variable {X : Cx} {pos : Pos}
end
end L2
namespace L2
open PySem PySem.SetTable
def adv (m : Nat) (p : Probe) : Probe :=
  if p.more > 0 then { p with j := p.j + 1, more := p.more - 1 } else
  let (i, perturb) := leap m p.i p.perturb
  { p with j := i, more := runEnd m i - i, i, perturb }
def wstart (m : Nat) (h : Int) : Probe := { j := bits h % (m + 1), more := runEnd m (bits h % (m + 1)) - bits h % (m + 1), i := bits h % (m + 1), perturb := bits h, dummy := none }
def way (m : Nat) (h : Int) : Nat -> Probe
  | 0 => wstart m h
  | n + 1 => adv m (way m h n)
def nx (m i : Nat) : Nat := (i * 5 + 1) % (m + 1)
end L2
namespace L2
open PySem PySem.SetTable
end L2
namespace L2
open PySem PySem.SetTable
section
variable {prog : Program} {w : World} {A : Around} {E : Value -> Shared -> Prop} {s : Shared}
end
end L2
namespace L2
open PySem PySem.SetTable
section
variable {prog : Program} {w : World} {A : Around} {E : Value -> Shared -> Prop} {s : Shared} {a b : Addr} {o : Obj} {es : Array (Int × Value)} {ep : Nat} {t : SetTable} {kx : List Int}
end
end L2
namespace L2
open PySem PySem.SetTable PyProof.Rows
section
variable {prog : Program} {w : World} {G : Value -> List Int -> Prop} {A : Around} {E : Value -> Shared -> Prop} {s : Shared} {a b : Addr} {led : Bool} {kss : List (List Int)} {kx : List Int}
end
end L2
namespace L2
open PySem PySem.Spec PyProof.Rows
section
variable {prog : Program} {w : World} {A : Around} {R : Result -> Shared -> Prop} {I : Addr} {fp wr : List Addr} {G : Array GenState -> Array GenState -> Prop} {n : Nat} {P : Nat -> Value -> Prop} {St : Nat -> Shared -> Prop}
end
section
variable {prog : Program} {w : World} {A : Around} {E : Value -> Shared -> Prop} {s : Shared}
set_option maxHeartbeats 8000000 in
end
end L2
namespace L2
open PySem PySem.W PyProof.Rows
section
variable {prog : Program} {w : World} {A : Around} {E : Value -> Shared -> Prop} {s : Shared} {a : Addr} {kss : List (List Int)} {G : Value -> List Int -> Prop}
end
section
variable {X : Cx}
end
end L2
namespace L2
open PySem PySem.W PyProof.Rows
section
variable {X : Cx}
end
end L2
namespace L2
open PySem PySem.W PyProof.Rows
section
variable {X : Cx}
def rEqLI (K : PySem.W.Frag) : R2 := fun x y H Q => ∃ (a b : Addr) (ks ms : List Int), x = .ref a /\ y = .ref b /\ SqL K H a (ks.map V.int) /\ SqL K H b (ms.map V.int) /\ Q (.bl (decide (ks = ms))) H
theorem op_eqLI (hu : X.A.units + 66 < cLine) : OpR X (compareOp .Eq) (rEqLI X.K) := by
  intro pins s σ H x y v u Q I rx ry h
  obtain ⟨a, b, ks, ms, rfl, rfl, ha, hb, q⟩ := h
  cases (show v = Value.ref a from rx)
  cases (show u = Value.ref b from ry)
  obtain ⟨its, r1, t1, _⟩ := I.list ha
  obtain ⟨its2, r2, t2, _⟩ := I.list hb
  have l1 : its.toArray.size = ks.length := by rw [List.size_toArray, <- r1.length, List.length_map]
  have l2 : its2.toArray.size = ms.length := by rw [List.size_toArray, <- r2.length, List.length_map]
  by_cases c : ks.length = ms.length
  · refine SeqAt.eq_listAt (e := fun i => decide (ks.getD i 0 = ms.getD i 0)) t1.isList t2.isList (by lia) (by lia) (fun j h1 h2 => ?_) ?_
    · have i1 : j < ks.length := by lia
      have i2 : j < ms.length := by lia
      obtain ⟨v1, e1, p1⟩ := r1.get (i := j) (x := .int ks[j]) (by simp [i1])
      obtain ⟨v2, e2, p2⟩ := r2.get (i := j) (x := .int ms[j]) (by simp [i2])
      have w1 : its.toArray[j] = v1 := by have := List.getElem?_eq_some_iff.mp e1; simpa using this.2
      have w2 : its2.toArray[j] = v2 := by have := List.getElem?_eq_some_iff.mp e2; simpa using this.2
      rw [w1, w2]
      have := eqAt_V (A := X.A.in1) (s := s) p1 p2 rfl rfl
      rw [eqV_int] at this
      simpa [i1, i2] using this
    · have := all_same (0 : Int) l1 l2
      rw [show min its.toArray.size its2.toArray.size = its.toArray.size by lia, show (its.toArray.size == its2.toArray.size) = true by rw [beq_iff_eq]; lia, Bool.and_true] at this
      rw [this]
      exact ⟨.bl _, H, I, rfl, q⟩
  · refine SeqAt.eq_list_lengthsAt t1.isList t2.isList (by rw [bne_iff_ne, l1, l2]; exact c) (by lia) ?_
    rw [decide_eq_false (fun z => c (by rw [z]))] at q
    exact ⟨.bl _, H, I, rfl, q⟩
end
end L2
namespace L2
open PySem PySem.Spec PyProof.Rows PySem.W
def DKeeps {α : Type} : Sem α -> Prop
  | .pure _ => True
  | .unsupported _ => True
  | .finish _ => True
  | .rule _ k => DKeeps (k ())
  | .at _ k => DKeeps (k ())
  | .load _ _ k => ∀ o, DKeeps (k o)
  | .update _ _ f k => (∀ o, (f o).dict = o.dict) /\ DKeeps (k ())
  | .loadIfAlive _ k => ∀ o, DKeeps (k o)
  | .point _ k => DKeeps (k ())
  | .alloc _ k => ∀ a, DKeeps (k a)
  | .fresh k => ∀ a, DKeeps (k a)
  | .ask k => ∀ a, DKeeps (k a)
  | .handled _ k => ∀ a, DKeeps (k a)
  | .stack k => ∀ a, DKeeps (k a)
  | .thread k => ∀ a, DKeeps (k a)
  | _ => False
def DSame (h h' : Heap) : Prop := ∀ (b : Nat) (o : Obj), h.objs[b]? = some o -> ∃ o', h'.objs[b]? = some o' /\ o'.dict = o.dict
theorem DSame.refl (h : Heap) : DSame h h := fun _ o e => ⟨o, e, rfl⟩
theorem DSame.trans {h1 h2 h3 : Heap} (x : DSame h1 h2) (y : DSame h2 h3) : DSame h1 h3 := fun b o e => by
  obtain ⟨o1, e1, d1⟩ := x b o e
  obtain ⟨o2, e2, d2⟩ := y b o1 e1
  exact ⟨o2, e2, d2.trans d1⟩
theorem DSame.push {h : Heap} {o : Obj} : DSame h (h.push o) := fun b u e => by
  obtain ⟨objs, l⟩ := h
  refine ⟨u, ?_, rfl⟩
  show (objs.push o)[b]? = some u
  have : b < objs.size := (Array.getElem?_eq_some_iff.mp e).1
  rw [Array.getElem?_push, if_neg (Nat.ne_of_lt this)]
  exact e
theorem DSame.update {h : Heap} {a : Addr} {f : Obj -> Obj} (hf : ∀ o, (f o).dict = o.dict) : DSame h (h.update a f) := fun b u e => by
  obtain ⟨objs, l⟩ := h
  show ∃ o', (objs.modify a f)[b]? = some o' /\ _
  have e' : objs[b]? = some u := e
  rw [Array.getElem?_modify]
  by_cases hb : a = b
  · rw [if_pos hb, e']
    exact ⟨f u, rfl, hf u⟩
  · rw [if_neg hb, e']
    exact ⟨u, rfl, rfl⟩
theorem get_objs {h : Heap} {a : Addr} {o : Obj} (e : h.get? a = some o) : h.objs[a]? = some o := by
  unfold Heap.get? at e
  split at e
  · cases e
  · exact e
theorem DSame.at {h h' : Heap} (x : DSame h h') {a : Addr} {o o' : Obj} (e : h.get? a = some o) (e' : h'.get? a = some o') : o'.dict = o.dict := by
  obtain ⟨u, e1, d⟩ := x a o (get_objs e)
  rw [get_objs e'] at e1
  cases e1
  exact d
theorem dkeeps_wp {α : Type} {M : Model} {Γ : PySem.Ctx} {E E' : Value -> Pos -> Shared -> Prop} : ∀ (t : Sem α) (Q : α -> Pos -> Shared -> Prop) (p : Pos) (s : Shared), DKeeps t -> Sem.wp M Γ t Q E p s -> Sem.wp M Γ t (fun a p' s' => Q a p' s' /\ DSame s.heap s'.heap) E' p s := by
  intro t
  have up : ∀ {h1 h2 h3 : Heap}, DSame h1 h2 -> DSame h2 h3 -> DSame h1 h3 := fun a b => a.trans b
  induction t with
  | pure a => intro Q p s _ h; rw [Sem.wp] at h ⊢; exact ⟨h, .refl _⟩
  | raise e => intro Q p s d h; exact d.elim
  | unsupported _ => intro Q p s _ h; rw [Sem.wp] at h; exact h.elim
  | finish _ => intro Q p s _ h; rw [Sem.wp] at h; exact h.elim
  | rule t k ih => intro Q p s d h; rw [Sem.wp] at h ⊢; exact ih () Q p s d h
  | «at» p' k ih => intro Q p s d h; rw [Sem.wp] at h ⊢; exact ih () Q p' s d h
  | load a x k ih => intro Q p s d h; rw [Sem.wp] at h ⊢; obtain ⟨o, e, h⟩ := h; exact ⟨o, e, ih o Q p s (d o) h⟩
  | update a x f k ih =>
    intro Q p s d h
    rw [Sem.wp] at h ⊢
    have := ih () Q p _ d.2 h.2
    refine ⟨h.1, ?_⟩
    have z := ih () (fun a p' s' => Q a p' s') p _ d.2 h.2
    exact Sem.wp_mono M Γ _ (fun a p1 s1 q => ⟨q.1, (DSame.update d.1).trans q.2⟩) (fun _ _ _ q => q) _ _ z
  | alloc o k ih =>
    intro Q p s d h
    rw [Sem.wp] at h ⊢
    exact Sem.wp_mono M Γ _ (fun a p1 s1 q => ⟨q.1, DSame.push.trans q.2⟩) (fun _ _ _ q => q) _ _ (ih _ Q p _ (d _) h)
  | loadIfAlive a k ih => intro Q p s d h; rw [Sem.wp] at h ⊢; exact ih _ Q p s (d _) h
  | point l k ih => intro Q p s d h; rw [Sem.wp] at h ⊢; exact ih () Q p s d h
  | register a k ih => intro Q p s d h; exact d.elim
  | fresh k ih => intro Q p s d h; rw [Sem.wp] at h ⊢; exact ih _ Q p _ (d _) h
  | ask k ih => intro Q p s d h; rw [Sem.wp] at h ⊢; exact ih _ Q p s (d _) h
  | choose a n k ih => intro Q p s d h; exact d.elim
  | os a l k ih => intro Q p s d h; exact d.elim
  | call c h g l k ih => intro Q p s d h; exact d.elim
  | handled o k ih => intro Q p s d h; rw [Sem.wp] at h ⊢; exact ih _ Q p s (d _) h
  | newGen c k ih => intro Q p s d h; exact d.elim
  | genState g k ih => intro Q p s d h; exact d.elim
  | resume g r l k ih => intro Q p s d h; exact d.elim
  | yield v g l k ih => intro Q p s d h; exact d.elim
  | stack k ih => intro Q p s d h; rw [Sem.wp] at h ⊢; exact ih _ Q p s (d _) h
  | fork c k ih => intro Q p s d h; exact d.elim
  | thread k ih => intro Q p s d h; rw [Sem.wp] at h ⊢; exact ih _ Q p s (d _) h
  | await a f d l k ih => intro Q p s d h; exact d.elim
theorem dkeeps_bind {α β : Type} : ∀ (t : Sem α) (f : α -> Sem β), DKeeps t -> (∀ a, DKeeps (f a)) -> DKeeps (t.bind f) := by
  intro t f
  induction t with
  | pure a => intro _ h; exact h a
  | raise e => intro d _; exact d.elim
  | unsupported _ => intro _ _; trivial
  | finish _ => intro _ _; trivial
  | rule t k ih => intro d h; exact ih () d h
  | «at» p' k ih => intro d h; exact ih () d h
  | load a x k ih => intro d h; exact fun o => ih o (d o) h
  | update a x f k ih => intro d h; exact ⟨d.1, ih () d.2 h⟩
  | alloc o k ih => intro d h; exact fun o => ih o (d o) h
  | loadIfAlive a k ih => intro d h; exact fun o => ih o (d o) h
  | point l k ih => intro d h; exact ih () d h
  | fresh k ih => intro d h; exact fun o => ih o (d o) h
  | ask k ih => intro d h; exact fun o => ih o (d o) h
  | handled o k ih => intro d h; exact fun o => ih o (d o) h
  | stack k ih => intro d h; exact fun o => ih o (d o) h
  | thread k ih => intro d h; exact fun o => ih o (d o) h
  | _ => intro d h; exact d.elim
theorem dk_bind {α β : Type} {t : Sem α} {f : α -> Sem β} (h1 : DKeeps t) (h2 : ∀ a, DKeeps (f a)) : DKeeps (t >>= f) := dkeeps_bind t f h1 h2
theorem dk_pure {α : Type} {a : α} : DKeeps (pure a : Sem α) := trivial
theorem wpAny_samed {α : Type} {M : Model} {A : Around} {t : Sem α} {Q : α -> Shared -> Prop} {E E' : Value -> Shared -> Prop} {s : Shared} (d : DKeeps t) (h : wpAny M A t Q E s) : wpAny M A t (fun a s' => Q a s' /\ DSame s.heap s'.heap) E' s :=
  fun Γ p g => dkeeps_wp t _ p s d (h Γ p g)
theorem dk_uns {α : Type} {w : String} : DKeeps (unsupported w : Sem α) := trivial
theorem dk_load {a : Addr} : DKeeps (load a) := fun _ => trivial
theorem dk_alloc {o : Obj} : DKeeps (alloc o) := fun _ => trivial
theorem dk_stack : DKeeps stack := fun _ => trivial
theorem mapFields_dict {f : Array Value -> Array Value} (o : Obj) : (Obj.mapFields f o).dict = o.dict := by
  unfold Obj.mapFields
  split <;> rfl
theorem dk_update {a : Addr} {f : Obj -> Obj} (h : ∀ o, (f o).dict = o.dict) : DKeeps (update a f) := ⟨h, trivial⟩
theorem dk_fieldsOf {v : Value} : DKeeps (fieldsOf v) := by
  unfold fieldsOf
  repeat (any_goals first | exact dk_pure | exact dk_uns | exact dk_load | exact dk_loadPart | exact dk_alive | exact dk_alloc | exact dk_stack | exact dk_rule | exact dk_point | exact dk_standAt | exact dk_update mapFields_dict | exact dk_updatePart mapFields_dict | exact dk_update (fun _ => rfl) | refine dk_bind ?_ (fun _ => ?_) | split)
theorem dk_field {v : Value} {i : Nat} : DKeeps (field v i) := by
  unfold field
  refine dk_bind dk_fieldsOf fun _ => ?_
  repeat (any_goals first | exact dk_pure | exact dk_uns | exact dk_load | exact dk_loadPart | exact dk_alive | exact dk_alloc | exact dk_stack | exact dk_rule | exact dk_point | exact dk_standAt | exact dk_update mapFields_dict | exact dk_updatePart mapFields_dict | exact dk_update (fun _ => rfl) | refine dk_bind ?_ (fun _ => ?_) | split)
theorem dk_setField {v x : Value} {i : Nat} : DKeeps (setField v i x) := by
  unfold setField
  repeat (any_goals first | exact dk_pure | exact dk_uns | exact dk_load | exact dk_loadPart | exact dk_alive | exact dk_alloc | exact dk_stack | exact dk_rule | exact dk_point | exact dk_standAt | exact dk_update mapFields_dict | exact dk_updatePart mapFields_dict | exact dk_update (fun _ => rfl) | refine dk_bind ?_ (fun _ => ?_) | split)
theorem dk_setFlight {v : Value} {f : Option Addr} : DKeeps (setFlight v f) := by
  unfold setFlight
  refine dk_bind dk_field fun tb => ?_
  split
  · exact dk_setField
  · exact dk_pure
theorem dk_newFields {t : String} {vs : List Value} : DKeeps (newFields t vs) := by
  unfold newFields newObj
  repeat (any_goals first | exact dk_pure | exact dk_uns | exact dk_load | exact dk_loadPart | exact dk_alive | exact dk_alloc | exact dk_stack | exact dk_rule | exact dk_point | exact dk_standAt | exact dk_update mapFields_dict | exact dk_updatePart mapFields_dict | exact dk_update (fun _ => rfl) | refine dk_bind ?_ (fun _ => ?_) | split)
theorem dk_behind {env : Env} {l : List Env} : DKeeps (behindIsImport env l) := by
  unfold behindIsImport
  repeat (any_goals first | exact dk_pure | exact dk_field | refine dk_bind ?_ (fun _ => ?_) | split)
theorem dk_under : DKeeps underTheClaimsCaller := by
  unfold underTheClaimsCaller
  repeat (any_goals first | exact dk_pure | exact dk_uns | exact dk_load | exact dk_loadPart | exact dk_alive | exact dk_alloc | exact dk_stack | exact dk_rule | exact dk_point | exact dk_standAt | exact dk_update mapFields_dict | exact dk_updatePart mapFields_dict | exact dk_update (fun _ => rfl) | refine dk_bind ?_ (fun _ => ?_) | split)
theorem dk_keptBack {env : Env} {b : Bool} {l : List Env} : DKeeps (keptBack env b l) := by
  cases l with
  | nil =>
    unfold keptBack
    repeat (any_goals first | exact dk_pure | exact dk_under | refine dk_bind ?_ (fun _ => ?_) | split)
  | cons c r => exact dk_pure
theorem dk_ready : ∀ l : List Env, DKeeps (readyFrames l)
  | [] => dk_pure
  | env :: outer => by
    unfold readyFrames
    repeat (any_goals first | exact dk_pure | exact dk_uns | exact dk_load | exact dk_behind | exact dk_keptBack | exact dk_ready outer | exact dk_update (fun _ => rfl) | refine dk_bind ?_ (fun _ => ?_) | split)
theorem dk_frameObject : ∀ l : List Env, DKeeps (frameObject l)
  | [] => dk_pure
  | env :: outer => dk_bind (dk_ready _) fun _ => dk_pure
theorem dk_frameOf {env : Env} : DKeeps (PySem.frameOf env) := by
  unfold PySem.frameOf frameEnvs
  repeat (any_goals first | exact dk_pure | exact dk_uns | exact dk_stack | exact dk_frameObject _ | refine dk_bind ?_ (fun _ => ?_) | split)
theorem dk_place {f : Addr} {b : Bool} : DKeeps (entryPlaceOf f b) := by
  unfold entryPlaceOf
  repeat (any_goals first | exact dk_pure | exact dk_uns | exact dk_load | exact dk_loadPart | exact dk_alive | exact dk_alloc | exact dk_stack | exact dk_rule | exact dk_point | exact dk_standAt | exact dk_update mapFields_dict | exact dk_updatePart mapFields_dict | exact dk_update (fun _ => rfl) | refine dk_bind ?_ (fun _ => ?_) | split)
theorem dk_noteFrame {e : Value} {env : Env} : DKeeps (noteFrame e env) := by
  unfold noteFrame EntryCells.newEntry
  repeat (any_goals first | exact dk_pure | exact dk_uns | exact dk_field | exact dk_setField | exact dk_newFields | exact dk_frameOf | exact dk_place | refine dk_bind ?_ (fun _ => ?_) | split)
theorem dk_leaving {e : Value} {env : Env} : DKeeps (leaving env e) := dk_bind dk_noteFrame fun _ => dk_setFlight
end L2
namespace L2
open PySem PySem.Spec PyProof.Rows PySem.W
def DictIs (h : Heap) (ea : Addr) (od : Option Addr) : Prop := ∀ dx, od = some dx -> ∃ o, h.get? ea = some o /\ o.dict = some dx
def CXq (P : Program) (w : World) : CXT := fun outer H s E e s' => ∃ (ea C : Addr) (a0 : Value) (B : Heap) (H' : Hp) (od : Option Addr), e = .ref ea /\ s'.os = s.os /\ AllBare s'.gens /\ Un (frs outer) [] H H' s.heap s'.heap /\ HOk P w H' s'.heap /\
  Heap.FlyingW B outer ea (.ref C) a0 s'.heap /\ (∀ b o, s'.heap.get? b = some o -> ((∃ q, s.heap.get? b = some q) \/ ∃ q, H' b = some q) -> b ∉ frs outer -> B.get? b = some o) /\ DictIs s'.heap ea od /\ E (.ref C) od H'
theorem CXr.q {P : Program} {w : World} {outer : List Env} {H : Hp} {s : Shared} {E : XK} {e : Value} {s' : Shared} (h : CXr P w outer H s E e s') : CXq P w outer H s E e s' := by
  obtain ⟨ea, C, a0, B, H', e1, e2, e3, e4, e5, e6, e7, e8⟩ := h
  exact ⟨ea, C, a0, B, H', none, e1, e2, e3, e4, e5, e6, e7, (fun _ z => by cases z), e8⟩
section
variable {P : Program} {w : World} {K : PySem.W.Frag} {mg : Str -> Option Value} {base : Heap} {N : List Str} {qual : Str} {scope : Scope} {f : Addr} {cd : Value} {A : Around} {outer : List Env} {s0 : Shared} {H0 : Hp} {E : XK}
theorem inv_cx {CX CX' : CXT} {E' : XK} {pins : List (Addr × Obj)} {σ : St} {H : Hp} {s : Shared} (I : Inv (cxOf CX P w K mg base N qual scope f cd A outer s0 H0 E) pins σ H s) : Inv (cxOf CX' P w K mg base N qual scope f cd A outer s0 H0 E') pins σ H s :=
  ⟨⟨I.ok.mod, I.ok.kind, I.ok.glob, I.ok.blt, I.ok.above, I.ok.inj, I.ok.has, I.ok.cab, I.ok.hd, I.ok.frames, I.ok.stk, I.ok.exf, I.ok.bs, I.ok.bsz, I.ok.noex, I.ok.exfs, I.ok.funs, I.ok.frf⟩, I.os, I.bare, I.base, I.loc, I.cell, I.free, I.freeC, I.pin, I.hok, I.len⟩
theorem leave_raiseQ {pins : List (Addr × Obj)} {σ : St} {H : Hp} {s2 : Shared} {h' : Heap} {e C : Addr} {vs : List Value} {E2 : Value -> Shared -> Prop} (I : Inv (cxOf (CXq P w) P w K mg base N qual scope f cd A outer s0 H0 E) pins σ H s2)
    (hx : Heap.MadeExcOf s2.heap h' e (.ref C) vs) (q : E (.ref C) none H) :
    wpAny (model P w) (A.deeper (envOfC qual scope s0.heap.objs.size f cd)) (leaving (envOfC qual scope s0.heap.objs.size f cd) (.ref e)) (fun _ s'' => CXq P w outer H0 s0 E (.ref e) s'') E2 { s2 with heap := h' } :=
  wpAny_mono (leave_raise (inv_cx I) hx q) (fun _ _ z => z.q) fun _ _ z => z
theorem ps_raiseQ {x : Str} {C : Addr} {bm : List Value} {np cpos pos : Pos} {e : Expr} {ta : TA} (hg : Gl (cxOf (CXq P w) P w K mg base N qual scope f cd A outer s0 H0 E) x) (hm : mg x = some (.ref C)) (hc : excB K C bm = true)
    (ha : PA (cxOf (CXq P w) P w K mg base N qual scope f cd A outer s0 H0 E) [e] ta) (hd : (x == ("__debug__" : Str)) = false := by decide)
    (hs : starEach [e] (envOfC qual scope s0.heap.objs.size f cd) = [(false, eval e (envOfC qual scope s0.heap.objs.size f cd))] := by rfl) :
    PS (cxOf (CXq P w) P w K mg base N qual scope f cd A outer s0 H0 E) (.Raise (some (.Call (.Name x np) [e] [] cpos)) none pos) (tRaise C E ta) := by
  intro pins s σ H D I h
  have XA := excAt_of I.mod.kin hc
  obtain ⟨Na, nm, qn, bs, hd', sn, sub, ab, col, dd, k0, k1, k2, k3, k5, mN, e1, e2, e3, e4⟩ := XA.ex
  refine wpAny_Raise_call_subU (mN := mN) (nm := nm) (q := qn) (N := Na) (bs := bs) (bm := bm) (hdct := hd') (sn := sn) (sub := sub) (ab := ab) (col := col) (dd := dd) (k0 := k0) (k1 := k1) (k2 := k2) (k3 := k3) (k5 := k5) F.excBase_ValueError bmVE_value F.excBase_ValueError (e4.hasType bmVE_base) (I.ok.hd rfl) (by show (backTo cpos (starEach [e] (envOfC qual scope s0.heap.objs.size f cd))).any (·.1) = false; rw [hs]; rfl) e3 (ld_glob I hg hm ⟨rfl, ?_⟩ hd)
  have hA := ha cpos pins s σ H _ I h
  show wpAny _ _ (evalArgs (.ref C) true (backTo cpos (starEach [e] (envOfC qual scope s0.heap.objs.size f cd))) []) _ _ _
  have hA' : wpAny (model P w) (A.deeper (envOfC qual scope s0.heap.objs.size f cd)) (spliced (backTo cpos (starEach [e] (envOfC qual scope s0.heap.objs.size f cd)))) _ _ s := hA
  rw [hs] at hA' ⊢
  refine Calls.evalArgs_plain (thn hA' fun us s2 ⟨vs, H2, I2, r2, q2⟩ => ?_)
  refine ⟨rfl, ?_, I2.bk _ _ e1, e2.keeps I2.bk, e4.keeps I2.bk, fun h' ea hx => ?_⟩
  · show us.length <= sizeLine
    rw [<- r2.length]
    exact Nat.le_trans q2.1 (by decide)
  · exact leave_raiseQ I2 hx q2.2
theorem pass_onQ : Passes (CXq P w) (cxOf (CXq P w) P w K mg base N qual scope f cd A outer s0 H0 E) E := by
  intro pins σ H s e s' I hx
  obtain ⟨ea, C, a0, B, H', od, rfl, os, bare, un, hok, fly, kB, di, q⟩ := hx
  have z : wpAny (model P w) (A.deeper (envOfC qual scope s0.heap.objs.size f cd)) (leaving (envOfC qual scope s0.heap.objs.size f cd) (.ref ea)) (fun _ s'' => CXr P w outer H0 s0 (fun c _ H => c = .ref C /\ E c od H) (.ref ea) s'') _ s' :=
    pass_on (E := fun c _ H => c = .ref C /\ E c od H) pins σ H s (.ref ea) s' (inv_cx I) ⟨ea, C, a0, B, H', rfl, os, bare, un, hok, fly, kB, rfl, q⟩
  refine wpAny_mono (wpAny_samed (E' := fun _ _ => False) dk_leaving z) (fun _ s'' ⟨c, ds⟩ => ?_) fun e' s'' c => c.elim
  · obtain ⟨ea', C', a0', B', H'', e1, os', bare', un', hok', fly', kB', e2, q'⟩ := c
    cases e1
    cases e2
    refine ⟨ea, C, a0', B', H'', od, rfl, os', bare', un', hok', fly', kB', fun dx e => ?_, q'⟩
    obtain ⟨o, h1, h2⟩ := di dx e
    obtain ⟨o', h3, _⟩ := fly'.there
    exact ⟨o', h3, (ds.at h1 h3).trans h2⟩
end
structure DefQ (P : Program) (w : World) (K : PySem.W.Frag) (mg : Str -> Option Value) (base : Heap) (k : Nat) (x : Str) (ps : List Str) (sp : Sp) : Prop where
  ex : ∃ f fd, FnOk P w K mg base (CXq P w) k f fd ps sp /\ Binds K fd ps [] /\ mg x = some (.ref f) /\ PySem.W.keepIn K (.ref f) = true
theorem Src.defQ {P : Program} {w : World} {K : PySem.W.Frag} {mg : Str -> Option Value} {base : Heap} {k : Nat} {x : Str} {st : Stmt} {N ps : List Str} {sp : Sp} (S : Src K mg x st ps) (sc : FnScope N ps (defScope st)) (len : ∀ vs H Q E, sp vs H Q E -> vs.length = ps.length)
    (hbody : ∀ (f : Addr) (cdv : Value) (A : Around) (outer : List Env) (s : Shared) (H : Hp) (vs : List V) (Q : VK) (E : XK), Room k (A.deeper (envOfC x (defScope st) s.heap.objs.size f cdv)) -> sp vs H Q E ->
      ∃ t, PSs (cxOf (CXq P w) P w K mg base N x (defScope st) f cdv A outer s H E) (defBody st) t /\ t { nx := fun _ H' => Q .non H', rt := Q } (start N vs) H) : DefQ P w K mg base (k + 1) x ps sp := by
  obtain ⟨f, fd, F, b, m⟩ := S.ex
  obtain ⟨oc, od, kV, doc, pm, an, cdv, ct, osl, e, lk, hcd⟩ := F.ex
  subst e
  exact ⟨f, _, fn_of lk hcd sc len (hbody f cdv), b, m, F.kp⟩
theorem pe_defPQ {P : Program} {w : World} {K : PySem.W.Frag} {mg : Str -> Option Value} {base : Heap} {N : List Str} {qual : Str} {scope : Scope} {f : Addr} {cd : Value} {A : Around} {outer : List Env} {s0 : Shared} {H0 : Hp} {E : XK} {k : Nat} {x : Str} {ps : List Str} {sp : Sp} {e : Expr} {es : List Expr} {t : TA} {p pos : Pos}
    (D : DefQ P w K mg base k x ps sp) (hr : Room k (A.deeper (envOfC qual scope s0.heap.objs.size f cd))) (hg : Gl (cxOf (CXq P w) P w K mg base N qual scope f cd A outer s0 H0 E) x) (ha : PA (cxOf (CXq P w) P w K mg base N qual scope f cd A outer s0 H0 E) (e :: es) t)
    (hdb : (x == ("__debug__" : Str)) = false := by decide) (he : starEach (e :: es) (envOfC qual scope s0.heap.objs.size f cd) = (false, eval e (envOfC qual scope s0.heap.objs.size f cd)) :: starEach es (envOfC qual scope s0.heap.objs.size f cd) := by rfl)
    (hpl : (backTo pos (starEach es (envOfC qual scope s0.heap.objs.size f cd))).any (·.1) = false := by rfl) :
    PE (cxOf (CXq P w) P w K mg base N qual scope f cd A outer s0 H0 E) (.Call (.Name x p) (e :: es) [] pos) (tCall sp [] E t) := by
  obtain ⟨g, fd, F, b, m, kp⟩ := D.ex
  exact pe_call F hr hg m kp b .nil pass_onQ ha hdb he hpl
def ExcObjP (a C : Addr) (od : Option Addr) (h : Heap) : Prop := ∃ (o : Obj) (vs : Array Value), h.get? a = some o /\ o.cls = .ref C /\ o.data = .fields vs /\ ∀ dx, od = some dx -> o.dict = some dx
def excP (a C : Addr) (od : Option Addr) : HO := .ext (ExcObjP a C od)
theorem excP_ok {P : Program} {w : World} {H : Hp} {h : Heap} {a C : Addr} {od : Option Addr} (x : ExcObjP a C od h) : ObjOk P w H h a (excP a C od) := by
  obtain ⟨o, vs, h1, h2, h3, h4⟩ := id x
  exact ⟨x, ⟨o, h1⟩, fun a1 a2 ⟨o', v', e1, e2, e3, e4⟩ k => ⟨o', v', k o' e1, e2, e3, e4⟩⟩
section
variable {X : Cx}
def rIsP (K : PySem.W.Frag) : List V -> Hp -> VK -> Prop := fun xs H Q => ∃ (a C : Addr) (od : Option Addr) (c : V) (u : Value) (b : Bool), xs = [.ref a, c] /\ RelV c u /\ H a = some (excP a C od) /\ ExcK K C /\ kitOne K (.ref C) u = some b /\ Q (.bl b) H
theorem call_isP : CallR X (.builtin "isinstance") (rIsP X.K) := by
  intro pins s σ H xs us Q I r h
  obtain ⟨a, C, od, c, u, b, rfl, rc, ha, Z, e, q⟩ := h
  obtain ⟨v1, v2, rfl, r1, r2⟩ := Vals.two r
  cases r1
  obtain ⟨⟨o, _, hx1, hx2, _⟩, _⟩ := I.hok a _ ha
  have e2 : v2 = u := by
    cases c <;> first
      | exact (show v2 = _ from r2).trans (show u = _ from rc).symm
      | skip
    all_goals (exfalso; obtain ⟨_, rfl⟩ := rc; unfold kitOne kitCls at e; split at e <;> simp_all)
  subst e2
  exact kia_one (kitx_exc Z) I.kIn ⟨o, hx1, hx2⟩ e (by intro z; cases z) fun tk => ⟨.bl b, H, I.tok _, rfl, q⟩
end
section
variable {M : Model} {A : Around} {E : Value -> Shared -> Prop} {s : Shared}
theorem looks_onD {base : Heap} {env : Env} {outer : List Env} {L e : Addr} {cls a0 : Value} {Q : Unit -> Shared -> Prop} (hfr : A.frames = some (env :: outer)) (hf : env.frame = some L) (hfl : Heap.FlyingW base (env :: outer) e cls a0 s.heap)
    (hQ : ∀ h', Heap.HeldW base (env :: outer) e cls a0 L h' -> s.heap.UpToSlots h' -> DSame s.heap h' -> Q () { s with heap := h' }) : wpAny M A (noteFrame (.ref e) env) Q E s :=
  wpAny_mono (wpAny_samed (E := fun _ _ => False) (E' := E) dk_noteFrame (wpAny_looks_onW (Q := fun _ s' => ∃ h', s' = { s with heap := h' } /\ Heap.HeldW base (env :: outer) e cls a0 L h' /\ s.heap.UpToSlots h') hfr hf hfl fun h' a b => ⟨h', rfl, a, b⟩))
    (fun _ s' ⟨⟨h', e, a, b⟩, d⟩ => by subst e; exact hQ h' a b d) fun _ _ x => x
theorem landsD {base : Heap} {l : List Env} {e L : Addr} {cls a0 : Value} {Q : Unit -> Shared -> Prop} (hh : Heap.HeldW base l e cls a0 L s.heap)
    (hQ : ∀ h', Heap.FlyingW base l e cls a0 h' -> s.heap.UpToSlots h' -> DSame s.heap h' -> Q () { s with heap := h' }) : wpAny M A (setFlight (.ref e) none) Q E s :=
  wpAny_mono (wpAny_samed (E := fun _ _ => False) (E' := E) dk_setFlight (wpAny_landsW (Q := fun _ s' => ∃ h', s' = { s with heap := h' } /\ Heap.FlyingW base l e cls a0 h' /\ s.heap.UpToSlots h') hh fun h' a b => ⟨h', rfl, a, b⟩))
    (fun _ s' ⟨⟨h', e, a, b⟩, d⟩ => by subst e; exact hQ h' a b d) fun _ _ x => x
theorem lands_againD {base : Heap} {l : List Env} {e : Addr} {cls a0 : Value} {Q : Unit -> Shared -> Prop} (hh : Heap.FlyingW base l e cls a0 s.heap)
    (hQ : ∀ h', Heap.FlyingW base l e cls a0 h' -> s.heap.UpToSlots h' -> DSame s.heap h' -> Q () { s with heap := h' }) : wpAny M A (setFlight (.ref e) none) Q E s :=
  wpAny_mono (wpAny_samed (E := fun _ _ => False) (E' := E) dk_setFlight (lands_againW (Q := fun _ s' => ∃ h', s' = { s with heap := h' } /\ Heap.FlyingW base l e cls a0 h' /\ s.heap.UpToSlots h') hh fun h' a b => ⟨h', rfl, a, b⟩))
    (fun _ s' ⟨⟨h', e, a, b⟩, d⟩ => by subst e; exact hQ h' a b d) fun _ _ x => x
end
def XPQ (X : Cx) (pins : List (Addr × Obj)) (DX : St -> XK) (e : Value) (s' : Shared) : Prop := ∃ σ H s, Inv X pins σ H s /\ CXq X.prog X.w X.stack H s (DX σ) e s'
def PXQ (X : Cx) (st : Stmt) (t : TSX) : Prop := ∀ (pins : List (Addr × Obj)) (s : Shared) (σ : St) (H : Hp) (D : Ends) (DX : St -> XK), Inv X pins σ H s -> t D DX σ H -> wpAny (model X.prog X.w) X.A (exec st X.env) (SP X pins D) (XPQ X pins DX) s
def PXQs (X : Cx) (st : List Stmt) (t : TSX) : Prop := ∀ (pins : List (Addr × Obj)) (s : Shared) (σ : St) (H : Hp) (D : Ends) (DX : St -> XK), Inv X pins σ H s -> t D DX σ H -> wpAny (model X.prog X.w) X.A (execs st X.env) (SP X pins D) (XPQ X pins DX) s
section
variable {X : Cx}
theorem pxqs_one {st : Stmt} {t : TSX} (h : PXQ X st t) : PXQs X [st] t := by
  intro pins s σ H D DX I ht
  refine wpAny_execs_cons (thn (h pins s σ H D DX I ht) fun f s1 q => ?_)
  cases f with
  | next => exact wpAny_execs_nil q
  | ret v => exact q
  | brk => exact q
  | cont => exact q
theorem run_xq {k : Nat} {x : Str} {ps : List Str} {sp : Sp} {e : Expr} {es : List Expr} {ta : TA} {p pos : Pos} {pins : List (Addr × Obj)} {s : Shared} {σ : St} {H : Hp} {Q : VK} {DX : St -> XK} (D : DefQ X.prog X.w X.K X.mg X.base k x ps sp) (hr : Room k X.A) (hg : Gl X x) (ha : PA X (e :: es) ta) (hxe : ∀ e s, X.xe e s -> False)
    (hdb : (x == ("__debug__" : Str)) = false) (he : starEach (e :: es) X.env = (false, eval e X.env) :: starEach es X.env) (hpl : (backTo pos (starEach es X.env)).any (·.1) = false)
    (I : Inv X pins σ H s) (h : ta σ H fun vs H1 => sp (vs ++ []) H1 Q (DX σ)) : wpAny (model X.prog X.w) X.A (eval (.Call (.Name x p) (e :: es) [] pos) X.env) (EP X pins σ Q) (XPQ X pins DX) s := by
  obtain ⟨f, fd, F, bd, m, kp⟩ := D.ex
  refine wpAny_Call_Name_kw (ld_glob I hg m ?_ hdb)
  refine PySem.W.callWith_K (h₀ := X.base) I.ok.mod.kin kp (wpAny_mono (ha pos pins s σ H _ I h) (fun us s1 ⟨vs, H1, I1, r, q⟩ => ⟨I1.kIn, ?_⟩) fun _ _ z => (hxe _ _ z).elim) he hpl
  have r2 : Vals (vs ++ []) (us ++ []) := r.append .nil
  have hl : (us ++ []).length = ps.length := by rw [<- r2.length]; exact F.len _ _ _ _ q
  refine wpAny_call (codeAny_mono (F.run X.A X.stack s1 H1 ⟨us, []⟩ (us ++ []) (vs ++ []) _ _ hr I1.env0 (bd s1 us I1.kIn hl) r2 q) fun r s' hq => ?_)
  cases r with
  | ok fl =>
    cases fl with
    | ret u => exact I1.after hq
    | next => exact False.elim hq
    | brk => exact False.elim hq
    | cont => exact False.elim hq
  | error ev => exact ⟨σ, H1, s1, I1, hq⟩
theorem pxq_call {k : Nat} {x : Str} {ps : List Str} {sp : Sp} {e : Expr} {es : List Expr} {ta : TA} {p pos epos : Pos} (D : DefQ X.prog X.w X.K X.mg X.base k x ps sp) (hr : Room k X.A) (hg : Gl X x) (ha : PA X (e :: es) ta) (hxe : ∀ e s, X.xe e s -> False)
    (hdb : (x == ("__debug__" : Str)) = false := by decide) (he : starEach (e :: es) X.env = (false, eval e X.env) :: starEach es X.env := by rfl) (hpl : (backTo pos (starEach es X.env)).any (·.1) = false := by rfl)
    (hs : swapsWith (.Call (.Name x p) (e :: es) [] pos) none epos.line X.env = pure false := by rfl) : PXQ X (.Expr (.Call (.Name x p) (e :: es) [] pos) epos) (xCall sp ta) := by
  intro pins s σ H D0 DX I h
  exact wpAny_Expr_any (thn (run_xq D hr hg ha hxe hdb he hpl I h) fun v s1 ⟨x, H1, I1, r1, q1⟩ => ⟨σ, H1, I1, q1⟩) I.quiet hs
def tTryQ (K : Frag) (tbody : TSX) (i : Nat) (W : Addr) (tb : TS) : TS := fun D σ H => tbody D (fun σ1 c od H2 => ∃ C, c = .ref C /\ subIn K (.ref C) (.ref W) = some true /\
  ∀ ea, H2 ea = none -> tb { D with nx := fun σ' H' => D.nx (σ'.set i none) H', bk := fun _ _ => False, ct := fun _ _ => False } (σ1.set i (some (.ref ea))) (upd H2 ea (excP ea C od))) σ H
theorem ps_tryQ {i : Nat} {cx n : Str} {tbody : TSX} {body : List Stmt} {tb : TS} {b0 : Stmt} {suite : List Stmt} {W : Addr} {bmW : List Value} {np hpos tpos : Pos} (hgc : Gl X cx) (hmc : X.mg cx = some (.ref W)) (hW : excB X.K W bmW = true) (hN : X.N.Nodup) (hi : X.N[i]? = some n) (hlo : X.env.scope.names.lookup n = some .local)
    (hbody : PXQs X body tbody) (hb : ∀ v, PSs (X.marked v) (b0 :: suite) tb) (hst : X.stack = X.env :: X.outer) (hfr : X.env.frame = some X.env.locals) (hdc : (cx == ("__debug__" : Str)) = false := by decide) :
    PS X (.Try body [.ExceptHandler (some (.Name cx np)) (some n) (b0 :: suite) hpos] [] [] tpos) (tTryQ X.K tbody i W tb) := by
  intro pins s σ H D0 I0 h
  refine wpAny_Try_except (wpAny_mono (hbody pins s σ H D0 _ I0 h) (fun fl s1 q => ?_) fun ev s' hx => ?_)
  · cases fl with
    | next => exact wpAny_execs_nil q
    | ret v => exact q
    | brk => exact q
    | cont => exact q
  · obtain ⟨σ1, H1, s1, I1, ea, C, a0, B, H', od, rfl, os, bare, un, hok, fly, kB, di, C', eC, sb, tq⟩ := hx
    cases eC
    have inv : ∀ h', B.StaysIn h' -> s'.heap.UpToSlots h' -> Inv X pins σ1 H' { s' with heap := h' } := fun h' a b => caught_inv I1 os bare un hok fly.2.2.1 kB a b
    obtain ⟨oe, ve, _, _, _, heo, ⟨_, _⟩, hdo, _⟩ := fly.2.2.2
    have nfr : ea ∉ frs X.stack := fun hm => frames_nf fly.2.2.1 hm heo ve hdo
    have fresh1 : s1.heap.get? ea = none := by
      cases z : s1.heap.get? ea with
      | none => rfl
      | some q1 =>
        have := kB ea oe heo (.inl ⟨q1, z⟩) nfr
        rw [fly.2.1] at this
        cases this
    have freshH : H' ea = none := by
      cases z : H' ea with
      | none => rfl
      | some q1 =>
        have := kB ea oe heo (.inr ⟨q1, z⟩) nfr
        rw [fly.2.1] at this
        cases this
    have hA : X.A.frames = some (X.env :: X.outer) := by rw [<- hst]; exact I1.ok.frames
    have fly' := fly
    rw [hst] at fly'
    refine looks_onD hA hfr fly' fun h4 held4 up4 ds4 => ?_
    refine landsD held4 fun h5 fly5 up5 ds5 => ?_
    have up45 := up4.trans up5
    have J5 := inv h5 fly5.1 up45
    refine wpAny_handleBy_cons (codeAny_handlers_test ?_) (by intro z; cases z)
    refine ld_glob (X := X.marked (.ref ea)) (Inv.mark J5) hgc hmc ?_ hdc
    obtain ⟨oe5, he5, hc5⟩ := fly5.there
    refine xc_matches J5.kIn hW sb he5 hc5 ?_
    refine codeAny_handlers_suite_as ?_
    refine lands_againD fly5 fun h6 fly6 up6 ds6 => ?_
    have J6 := inv h6 fly6.1 (up45.trans up6)
    obtain ⟨oe6, he6, hc6⟩ := fly6.there
    obtain ⟨oe6', ve6, _, _, _, he6', _, hd6, _⟩ := fly6.2.2.2
    rw [he6] at he6'
    cases he6'
    have gone : ∀ b o, s1.heap.get? b = some o -> b ≠ ea := fun b o z q => by rw [q, fresh1] at z; cases z
    have J7 : Inv X pins σ1 (upd H' ea (excP ea C od)) { s' with heap := h6 } := by
      refine J6.track freshH (excP_ok ⟨oe6, ve6, he6, hc6, hd6, fun dx e => (by obtain ⟨o, h1, h2⟩ := di dx e; exact (((ds4.trans ds5).trans ds6).at h1 he6).trans h2)⟩) ?_ ?_ ?_ ?_
      · obtain ⟨_, ⟨o, _, _, z, _⟩, _⟩ := I1.loc
        exact Ne.symm (gone _ o z)
      · intro y c z
        obtain ⟨_, o, z2, _⟩ := I1.cell y c z
        exact gone _ o z2
      · intro p0 hp0
        exact gone _ _ (I1.pin p0 hp0).1
      · intro b u z hx
        obtain ⟨o', z2⟩ := I1.base.there b u z hx
        exact gone _ o' z2
    refine store_ok J7 hN hi (.inl hlo) (show RelV (.ref ea) (.ref ea) from rfl) (fun s8 J8 => ?_) (.inr hlo)
    refine wpAny_mono (hb (.ref ea) pins s8 _ _ _ (Inv.mark J8) (tq ea freshH)) (fun fl s9 q9 => ?_) fun _ _ z => z.elim
    cases fl with
    | next =>
      obtain ⟨σ9, H9, J9, q⟩ := q9
      exact unbind_ok (X := X) (Inv.unmark J9 I1.ok.hd) hN hi hlo fun s10 J10 => ⟨_, H9, J10, q⟩
    | ret u =>
      obtain ⟨v, σ9, H9, J9, r9, q⟩ := q9
      exact unbind_ok (X := X) (Inv.unmark J9 I1.ok.hd) hN hi hlo fun s10 J10 => ⟨v, _, H9, J10, r9, q⟩
    | brk =>
      obtain ⟨_, _, _, q⟩ := q9
      exact False.elim q
    | cont =>
      obtain ⟨_, _, _, q⟩ := q9
      exact False.elim q
end
end L2
namespace L2
open PySem PySem.Spec PyProof.Rows PySem.W
section
variable {K : Frag} {prog : Program} {w : World} {A : Around} {E : Value -> Shared -> Prop} {h : Heap} {g : Array GenState} {d : Drawn} {t : Nat} {os : OsState} {a C dx : Addr} {vs : Array Value} {sl : Array (Option Value)} {f : Str} {v : Value} {mA : Str -> Option Value} {cc : Value} {cdd : Option Addr} {cd : ClassData} {csl : Array (Option Value)}
end
section
variable {X : Cx} {e : Expr} {f : Str} {pos : Pos} {ta : TE}
end
end L2
namespace L2
open PySem PySem.Spec PyProof.Rows PySem.W
section
variable {K : Frag} {prog : Program} {w : World} {A : Around} {E : Value -> Shared -> Prop} {h : Heap} {g : Array GenState} {d : Drawn} {t : Nat} {os : OsState} {C fI : Addr} {oI : Obj} {bm : List Value}
end
end L2
namespace L2
open PySem PySem.Spec PyProof.Rows PySem.W PySem.Builtin PySem.Builtin.ObjectAttr
section
variable {K : Frag} {prog : Program} {w : World} {A : Around} {E : Value -> Shared -> Prop} {s : Shared} {a C : Addr} {vs : Array Value} {f : Str} {v : Value}
end
end L2
namespace L2
open PySem PySem.Spec PyProof.Rows PySem.W
section
variable {K : Frag} {prog : Program} {w : World} {A : Around} {E : Value -> Shared -> Prop} {h : Heap} {g : Array GenState} {d : Drawn} {t : Nat} {os : OsState} {e C : Addr} {bm : List Value}
end
section
variable {X : Cx}
end
end L2
namespace L2
open PySem PySem.Spec PyProof.Rows PySem.W
section
variable {P : Program} {w : World} {K : PySem.W.Frag} {mg : Str -> Option Value} {base : Heap} {N : List Str} {qual : Str} {scope : Scope} {f : Addr} {cd : Value} {A : Around} {outer : List Env} {s0 : Shared} {H0 : Hp} {E : XK}
end
section
variable {M : Model} {A : Around} {E : Value -> Shared -> Prop} {env : Env} {K : Frag} {C : Addr} {bm : List Value}
end
end L2
namespace L2
open PySem PySem.Spec PyProof.Rows PySem.W
section
variable {P : Program} {w : World} {K : PySem.W.Frag} {mg : Str -> Option Value} {base : Heap} {N : List Str} {qual : Str} {scope : Scope} {f : Addr} {cd : Value} {A : Around} {outer : List Env} {s0 : Shared} {H0 : Hp} {E : XK}
end
end L2
namespace L2
open PySem PySem.Spec PyProof.Rows
section
variable {prog : Program} {w : World} {A : Around} {R : Result -> Shared -> Prop} {s : Shared}
end
section
variable {X : Cx} {scope : Scope} {N' : List Str} {fr : List (Option Nat)} {pins : List (Addr × Obj)} {σ : St} {H : Hp} {s : Shared} {fp : List Addr} {it : Addr} {tn : Nat -> Heap -> Prop} {J : It}
  {elt tg iter : Expr} {ifs : List Expr} {g : TG} {tt : TT} {te : TE} {pos : Pos} {fin : List V -> Hp -> Prop} {W : Nat -> Nat -> List V -> St -> Hp -> Prop} {RR : Value -> Addr -> Result -> Shared -> Prop} {E : Value -> Shared -> Prop}
end
section
variable {M : Model} {A : Around} {E : Value -> Shared -> Prop} {s : Shared}
end
section
variable {P : Program} {w : World} {K : PySem.W.Frag} {mg : Str -> Option Value} {base : Heap} {N : List Str} {qual : Str} {scope0 : Scope} {f : Addr} {cd : Value} {A : Around} {outer : List Env} {s0 : Shared} {H0 : Hp} {E : XK}
variable {scope : Scope} {N' : List Str} {fr : List (Option Nat)} {elt tg iter : Expr} {ifs : List Expr} {g : TG} {tt : TT} {te : TE} {pos : Pos}
end
end L2
namespace L2
open PySem PySem.Spec PyProof.Rows PySem.Builtin PySem.Builtin.Str
section
variable {X : Cx}
end
end L2
namespace L2
open PySem PySem.Spec PyProof.Rows
section
variable {X : Cx}
end
section
variable {X : Cx} {pins : List (Addr × Obj)} {σ : St} {H : Hp} {s : Shared} {d : Addr} {kvs : TTab}
end
section
variable {X : Cx} {o : Expr} {to : TE} {apos cpos : Pos}
end
end L2
namespace L2
open PySem PySem.Spec PyProof.Rows PySem.W
section
variable {P : Program} {w : World} {K : PySem.W.Frag} {mg : Str -> Option Value} {base : Heap} {k : Nat} {x : Str} {ps : List Str} {sp : Sp}
theorem SrcD.defQ {st : Stmt} {N : List Str} (S : SrcD K mg x st ps) (sc : FnScope N ps (defScope st)) (len : ∀ vs H Q E, sp vs H Q E -> vs.length = ps.length)
    (hbody : ∀ (f : Addr) (cdv : Value) (A : Around) (outer : List Env) (s : Shared) (H : Hp) (vs : List V) (Q : VK) (E : XK), Room k (A.deeper (envOfC x (defScope st) s.heap.objs.size f cdv)) -> sp vs H Q E ->
      ∃ t, PSs (cxOf (CXq P w) P w K mg base N x (defScope st) f cdv A outer s H E) (defBody st) t /\ t { nx := fun _ H' => Q .non H', rt := Q } (start N vs) H) : DefQ P w K mg base (k + 1) x ps sp := by
  obtain ⟨f, T, oc, od, kV, doc, pm, an, cdv, ct, osl, o, n, lk, hcd, kp, m, hT, hd, b0, b1⟩ := S.ex
  refine ⟨f, _, fn_of lk hcd sc len (hbody f cdv), fun s us X hl => ?_, m, kp⟩
  rw [List.append_nil] at hl ⊢
  obtain ⟨kk, e1, e2⟩ := b0 us hl
  exact PySem.W.binds_K X rfl hT hd e1 e2
end
section
variable {X : Cx}
def rIsPs (K : PySem.W.Frag) : List V -> Hp -> VK -> Prop := fun xs H Q => ∃ (a C p : Addr) (od : Option Addr) (cs : List V) (b : Bool), xs = [.ref a, .ref p] /\ SqT K H p cs /\ H a = some (excP a C od) /\ ExcK K C /\ (∀ us, Vals cs us -> PySem.W.kitAny K (.ref C) us = some b) /\ Q (.bl b) H
theorem call_isPs : CallR X (.builtin "isinstance") (rIsPs X.K) := by
  intro pins s σ H xs us Q I r h
  obtain ⟨a, C, p, od, cs, b, rfl, hp, ha, Z, e, q⟩ := h
  obtain ⟨v1, v2, rfl, r1, r2⟩ := Vals.two r
  cases (show v1 = Value.ref a from r1)
  cases (show v2 = Value.ref p from r2)
  obtain ⟨⟨ob, _, hx1, hx2, _⟩, _⟩ := I.hok a _ ha
  obtain ⟨its, rv, ⟨o, ho, hc, n, hd⟩, _⟩ := I.tuple hp
  obtain ⟨oc, od', dt, sl⟩ := o
  have e1 : oc = .type "tuple" := hc
  have e2 : dt = .seq its.toArray n := hd
  subst e1 e2
  exact PySem.W.kia_tup (kitx_exc Z) I.kIn ⟨ob, hx1, hx2⟩ ho (e its rv) (by intro z; cases z) fun tk => ⟨.bl b, H, I.tok _, rfl, q⟩
end
end L2
namespace L2
open PySem PySem.Spec PyProof.Rows
section
variable {X : Cx}
def rIsAny (K : PySem.W.Frag) : List V -> Hp -> VK -> Prop := fun xs H Q => ∃ (x : V) (t : Value) (p : Addr) (cs : List V) (b : Bool), xs = [x, .ref p] /\ SqT K H p cs /\ TyOf K H x t /\ (∀ C, t ≠ .ref C) /\ (∀ us, Vals cs us -> PySem.W.kitAny K t us = some b) /\ Q (.bl b) H
theorem call_isAny : CallR X (.builtin "isinstance") (rIsAny X.K) := by
  intro pins s σ H xs us Q I r h
  obtain ⟨x, t, p, cs, b, rfl, hp, ty, nr, e, q⟩ := h
  obtain ⟨u, v2, rfl, rx, r2⟩ := Vals.two r
  cases (show v2 = Value.ref p from r2)
  obtain ⟨its, rv, ⟨o, ho, hc, n, hd⟩, _⟩ := I.tuple hp
  obtain ⟨oc, od', dt, sl⟩ := o
  have e1 : oc = .type "tuple" := hc
  have e2 : dt = .seq its.toArray n := hd
  subst e1 e2
  have e3 := e its rv
  have h : ∀ tk, EP X pins σ Q (.bool b) { s with toks := tk } := fun tk => ⟨.bl b, H, I.tok _, rfl, q⟩
  cases ty with
  | non => cases (show u = Value.none from rx); exact PySem.W.kia_tup PySem.W.kitx_none I.kIn True.intro ho e3 (fun z => nomatch z) h
  | bl y => cases (show u = Value.bool y from rx); exact PySem.W.kia_tup PySem.W.kitx_bool I.kIn True.intro ho e3 (fun z => nomatch z) h
  | int i => obtain ⟨t, q⟩ := (show ∃ t, u = Value.int i t from rx); cases q; exact PySem.W.kia_tup PySem.W.kitx_int I.kIn True.intro ho e3 (fun z => nomatch z) h
  | str y => obtain ⟨t, q⟩ := (show ∃ t, u = Value.str y t from rx); cases q; exact PySem.W.kia_tup PySem.W.kitx_str I.kIn True.intro ho e3 (fun z => nomatch z) h
  | flt y => obtain ⟨t, q⟩ := (show ∃ t, u = Value.float y t from rx); cases q; exact PySem.W.kia_tup PySem.W.kitx_float I.kIn True.intro ho e3 (fun z => nomatch z) h
  | @lst a xs ea =>
    cases (show u = Value.ref a from rx)
    obtain ⟨_, _, n, _, h1⟩ := (show ObjOk X.prog X.w H s.heap a (.lst xs) from I.hok a _ ea)
    exact PySem.W.kia_tup PySem.W.kitx_list I.kIn ⟨_, h1, rfl⟩ ho e3 (fun z => nomatch z) h
  | @frz a ob xs ea =>
    cases (show u = Value.ref a from rx)
    obtain ⟨_, _, _, n, _, h1⟩ := (show ObjOk X.prog X.w H s.heap a (.frz ob (.lst xs)) from I.hok a _ ea)
    exact PySem.W.kia_tup PySem.W.kitx_list I.kIn ⟨_, h1, rfl⟩ ho e3 (fun z => nomatch z) h
  | @tup a xs ea =>
    cases (show u = Value.ref a from rx)
    obtain ⟨_, _, _, p⟩ := (show ObjOk X.prog X.w H s.heap a (.tup xs) from I.hok a _ ea)
    obtain ⟨o, h1, h2, _⟩ := p
    exact PySem.W.kia_tup PySem.W.kitx_tuple I.kIn ⟨o, h1, h2⟩ ho e3 (fun z => nomatch z) h
  | @dK a kvs ea =>
    cases (show u = Value.ref a from rx)
    obtain ⟨_, _, vs, _, p⟩ := (show ObjOk X.prog X.w H s.heap a (.dK kvs) from I.hok a _ ea)
    obtain ⟨o, es, ep, h1, h2, _⟩ := p
    exact PySem.W.kia_tup PySem.W.kitx_dict I.kIn ⟨o, h1, h2.1⟩ ho e3 (fun z => nomatch z) h
  | @dT a kvs ea =>
    cases (show u = Value.ref a from rx)
    obtain ⟨_, _, xs, _, o, es, ep, h1, h2, _⟩ := (show ObjOk X.prog X.w H s.heap a (.dT kvs) from I.hok a _ ea)
    exact PySem.W.kia_tup PySem.W.kitx_dict I.kIn ⟨o, h1, h2.1⟩ ho e3 (fun z => nomatch z) h
  | ins => exact absurd rfl (nr _)
inductive SameE (K : PySem.W.Frag) (H : Hp) : Nat -> V -> V -> Prop
  | flat {n : Nat} {x : V} (f : flatV x = true) : SameE K H n x x
  | dic {n : Nat} {a b : Addr} (ha : H a = some (.dK [])) (hb : H b = some (.dK [])) : SameE K H (n + 1) (.ref a) (.ref b)
  | tup {n : Nat} {a b : Addr} {xs ys : List V} (ha : SqT K H a xs) (hb : SqT K H b ys) (hl : xs.length = ys.length) (h : ∀ (i : Nat) (x y : V), xs[i]? = some x -> ys[i]? = some y -> SameE K H n x y) : SameE K H (n + 1) (.ref a) (.ref b)
  | lst {n : Nat} {a b : Addr} {xs ys : List V} (ha : SqL K H a xs) (hb : SqL K H b ys) (hl : xs.length = ys.length) (h : ∀ (i : Nat) (x y : V), xs[i]? = some x -> ys[i]? = some y -> SameE K H n x y) : SameE K H (n + 1) (.ref a) (.ref b)
theorem dict_nil {h : Heap} {P P' : Program} {w w' : World} {a : Addr} {vs : List (Key × Value)} (e : vs = []) (d : h.DictOf (mixKind P w) a vs) : h.DictOf (mixKind P' w') a ([] : List (Key × Value)) := by
  subst e
  obtain ⟨o, es, ep, h1, h2, h3, h4, h5, h6⟩ := d
  have e0 : es.toList = [] := List.eq_nil_of_length_eq_zero h5.length
  have e1 : es = #[] := Array.toList_eq_nil_iff.mp e0
  subst e1
  exact ⟨o, #[], ep, h1, h2, h3, fun e he => absurd he (by simp), .nil, h6⟩
theorem dict0 {pins : List (Addr × Obj)} {σ : St} {H : Hp} {s : Shared} (I : Inv X pins σ H s) {a : Addr} (ha : H a = some (.dK [])) (P : Program) (w : World) : (a == sysModules) = false /\ s.heap.DictOf (mixKind P w) a ([] : List (Key × Value)) := by
  obtain ⟨_, hS, vs, r, d⟩ := dk_of I.hok ha
  have e : vs = [] := by cases r; rfl
  exact ⟨hS, dict_nil e d⟩
theorem SameE.rc {pins : List (Addr × Obj)} {σ : St} {H : Hp} {s : Shared} (I : Inv X pins σ H s) {n : Nat} {x y : V} (h : SameE X.K H n x y) : ∀ (A : Around), A.units + n < cLine -> ∀ (u v : Value), RelV x u -> RelV y v -> SeqAt.EqAt A s u v true := by
  induction h with
  | flat f => intro A hu u v ru rv; have := eqAt_V (A := A) (s := s) ru rv f f; rw [eqV_self f] at this; exact this
  | @dic n a b ha hb =>
    intro A hu u v ru rv
    cases (show u = Value.ref a from ru)
    cases (show v = Value.ref b from rv)
    by_cases e : a = b
    · subst e; exact SeqAt.EqAt.same _
    · refine SeqAt.EqAt.of_refs e fun prog w E Q h => ?_
      obtain ⟨s1, d1⟩ := dict0 I ha prog w
      obtain ⟨s2, d2⟩ := dict0 I hb prog w
      exact PySem.W.keq_eq (r := true) s1 s2 d1 d2 (by lia) (fun _ => .nil) (by simpa using h)
  | @tup n a b xs ys ha hb hl _ ih =>
    intro A hu u v ru rv
    cases (show u = Value.ref a from ru)
    cases (show v = Value.ref b from rv)
    by_cases e : a = b
    · subst e; exact SeqAt.EqAt.same _
    · obtain ⟨its, r1, t1, _⟩ := I.tuple ha
      obtain ⟨its2, r2, t2, _⟩ := I.tuple hb
      have hz : its.toArray.size = its2.toArray.size := by simp [<- r1.length, <- r2.length, hl]
      refine SeqAt.EqAt.of_refs e ?_
      have q := SeqAt.RcAt.tuples (e := fun _ => true) (A := A) t1 t2 (by lia) (fun j h1 h2 => ?_)
      · rw [range_all_true _ _ (fun _ => rfl), hz] at q
        simpa using q
      · have l1 : j < xs.length := by have := r1.length; simp at h1; lia
        have l2 : j < ys.length := by lia
        obtain ⟨u1, e1, q1⟩ := r1.get (i := j) (x := xs[j]) (by simp [l1])
        obtain ⟨u2, e2, q2⟩ := r2.get (i := j) (x := ys[j]) (by simp [l2])
        have w1 : its.toArray[j] = u1 := by have := List.getElem?_eq_some_iff.mp e1; simpa using this.2
        have w2 : its2.toArray[j] = u2 := by have := List.getElem?_eq_some_iff.mp e2; simpa using this.2
        rw [w1, w2]
        exact ih j _ _ (by simp [l1]) (by simp [l2]) A.in1 (by have := @in1_units A; lia) _ _ q1 q2
  | @lst n a b xs ys ha hb hl _ ih =>
    intro A hu u v ru rv
    cases (show u = Value.ref a from ru)
    cases (show v = Value.ref b from rv)
    by_cases e : a = b
    · subst e; exact SeqAt.EqAt.same _
    · obtain ⟨its, r1, t1, _⟩ := I.list ha
      obtain ⟨its2, r2, t2, _⟩ := I.list hb
      have hz : its.toArray.size = its2.toArray.size := by simp [<- r1.length, <- r2.length, hl]
      refine SeqAt.EqAt.of_refs e ?_
      have q := SeqAt.RcAt.lists (e := fun _ => true) (A := A) t1.isList t2.isList hz (by lia) (fun j h1 h2 => ?_)
      · rw [range_all_true _ _ (fun _ => rfl)] at q
        exact q
      · have l1 : j < xs.length := by have := r1.length; simp at h1; lia
        have l2 : j < ys.length := by lia
        obtain ⟨u1, e1, q1⟩ := r1.get (i := j) (x := xs[j]) (by simp [l1])
        obtain ⟨u2, e2, q2⟩ := r2.get (i := j) (x := ys[j]) (by simp [l2])
        have w1 : its.toArray[j] = u1 := by have := List.getElem?_eq_some_iff.mp e1; simpa using this.2
        have w2 : its2.toArray[j] = u2 := by have := List.getElem?_eq_some_iff.mp e2; simpa using this.2
        rw [w1, w2]
        exact ih j _ _ (by simp [l1]) (by simp [l2]) A.in1 (by have := @in1_units A; lia) _ _ q1 q2
theorem same_itemsE {pins : List (Addr × Obj)} {σ : St} {H : Hp} {s : Shared} (I : Inv X pins σ H s) {A : Around} {n : Nat} {xs ys : List V} {its its2 : List Value} (hu : A.units + n < cLine) (r1 : Vals xs its) (r2 : Vals ys its2) (hl : xs.length = ys.length)
    (h : ∀ (i : Nat) (x y : V), xs[i]? = some x -> ys[i]? = some y -> SameE X.K H n x y) : ∀ j (h1 : j < its.toArray.size) (h2 : j < its2.toArray.size), SeqAt.EqAt A s its.toArray[j] its2.toArray[j] true := by
  intro j h1 h2
  have l1 : j < xs.length := by have := r1.length; simp at h1; lia
  have l2 : j < ys.length := by lia
  obtain ⟨u1, e1, q1⟩ := r1.get (i := j) (x := xs[j]) (by simp [l1])
  obtain ⟨u2, e2, q2⟩ := r2.get (i := j) (x := ys[j]) (by simp [l2])
  have w1 : its.toArray[j] = u1 := by have := List.getElem?_eq_some_iff.mp e1; simpa using this.2
  have w2 : its2.toArray[j] = u2 := by have := List.getElem?_eq_some_iff.mp e2; simpa using this.2
  rw [w1, w2]
  exact (h j _ _ (by simp [l1]) (by simp [l2])).rc I A hu _ _ q1 q2
def rSameE (K : PySem.W.Frag) (out : Bool) : R2 := fun x y H Q => ∃ n, n <= 64 /\ SameE K H n x y /\ Q (.bl out) H
theorem op_neE (hu : X.A.units + 66 < cLine) : OpR X (compareOp .NotEq) (rSameE X.K false) := by
  intro pins s σ H x y v u Q I rx ry h
  obtain ⟨n, hn, hs, q⟩ := h
  have hu1 : X.A.in1.units + 64 < cLine := by have := @in1_units X.A; lia
  cases hs with
  | flat f => exact op_ne pins s σ H x x v u Q I rx ry ⟨by cases x <;> first | rfl | (exact absurd f (by decide)) | (simp [flatV] at f), by rw [decide_eq_true rfl]; exact q⟩
  | @dic n a b ha hb =>
    cases (show v = Value.ref a from rx)
    cases (show u = Value.ref b from ry)
    obtain ⟨s1, d1⟩ := dict0 I ha X.prog X.w
    obtain ⟨s2, d2⟩ := dict0 I hb X.prog X.w
    exact PySem.W.keq_ne (r := true) s1 s2 d1 d2 (by lia) (fun _ => .nil) ⟨.bl false, H, I, by simp [RelV], q⟩
  | @tup n a b xs ys ha hb hl hs =>
    cases (show v = Value.ref a from rx)
    cases (show u = Value.ref b from ry)
    obtain ⟨its, r1, t1, _⟩ := I.tuple ha
    obtain ⟨its2, r2, t2, _⟩ := I.tuple hb
    have hz : its.toArray.size = its2.toArray.size := by simp [<- r1.length, <- r2.length, hl]
    refine EqBoolInt.of_rcne (SeqAt.RcNeAt.tuples (e := fun _ => true) t1 t2 (by lia) (same_itemsE I (by lia) r1 r2 hl hs)) ?_
    rw [range_all_true _ _ (fun _ => rfl), hz]
    exact ⟨.bl false, H, I, by simp [RelV], q⟩
  | @lst n a b xs ys ha hb hl hs =>
    cases (show v = Value.ref a from rx)
    cases (show u = Value.ref b from ry)
    obtain ⟨its, r1, t1, _⟩ := I.list ha
    obtain ⟨its2, r2, t2, _⟩ := I.list hb
    have hz : its.toArray.size = its2.toArray.size := by simp [<- r1.length, <- r2.length, hl]
    refine EqBoolInt.of_rcne (SeqAt.RcNeAt.lists (e := fun _ => true) t1.isList t2.isList hz (by lia) (same_itemsE I (by lia) r1 r2 hl hs)) ?_
    rw [range_all_true _ _ (fun _ => rfl)]
    exact ⟨.bl false, H, I, rfl, q⟩
end
end L2
namespace My
open PySem L2
def top (i : Nat) : Stmt := PySem.Challenge.pw_manycounts_k58_orders_refused.main.body.getD i (.Pass ⟨0, 0, 0, 0⟩)
abbrev sIsWhole : Stmt := top 18
abbrev sOnce : Stmt := top 19
abbrev sTold : Stmt := top 21
abbrev sWhole : Stmt := top 22
abbrev sAll : Stmt := top 23
abbrev sMore : Stmt := top 24
abbrev sHeads : Stmt := top 26
abbrev sRank : Stmt := top 27
abbrev sRankW : Stmt := top 28
abbrev sGath : Stmt := top 30
abbrev sPW : Stmt := top 32
abbrev sAT : Stmt := top 34
abbrev sInner : Stmt := top 36
abbrev sOuter : Stmt := top 37
abbrev sSwaps : Stmt := top 38
abbrev sAcross : Stmt := top 39
abbrev sIsIn : Stmt := top 40
abbrev sIsOut : Stmt := top 41
abbrev sFirst : Stmt := top 42
abbrev sTreeOf : Stmt := top 43
abbrev sNeeded : Stmt := top 44
abbrev sByT : Stmt := top 45
abbrev sAt : Stmt := top 47
abbrev sWeb : Stmt := top 48
abbrev sOrder : Stmt := top 49
abbrev sBad : Stmt := top 50
abbrev sAsked : Stmt := top 51
abbrev sRefused : Stmt := top 52
abbrev sLaw : Stmt := top 53
def TieAt (H : Hp) (v : V) (p : Int × Int) : Prop := ∃ a, v = .ref a /\ H a = some (.tup [.int p.1, .int p.2])
theorem TieAt.same {H H' : Hp} {v : V} {p : Int × Int} (h : TieAt H v p) (e : Same H H') : TieAt H' v p := let ⟨a, h1, h2⟩ := h; ⟨a, h1, e _ _ h2⟩
theorem ties_same {H H' : Hp} {xs : List V} {ps : List (Int × Int)} (h : Paired (TieAt H) xs ps) (e : Same H H') : Paired (TieAt H') xs ps := L2.Paired.mapP h fun _ _ q => q.same e
def norm (p : Int × Int) : Int × Int := if p.1 <= p.2 then (p.1, p.2) else (p.2, p.1)
structure WebAt (H : Hp) (w : V) (n : Int) (ps : List (Int × Int)) : Prop where
  ex : ∃ c d xs, w = .ref c /\ H c = some (.tup [.int n, .ref d]) /\ H d = some (.tup xs) /\ Paired (TieAt H) xs ps
theorem WebAt.same {H H' : Hp} {w : V} {n : Int} {ps : List (Int × Int)} (h : WebAt H w n ps) (e : Same H H') : WebAt H' w n ps := by
  obtain ⟨c, d, xs, h1, h2, h3, h4⟩ := h.ex
  exact ⟨c, d, xs, h1, e _ _ h2, e _ _ h3, ties_same h4 e⟩
structure Txt (K : W.Frag) (mg : Str -> Option Value) : Prop where
  isi : mg "isinstance" = none
  int : mg "int" = none
  bool : mg "bool" = none
  len : mg "len" = none
  tuple : mg "tuple" = none
  all : mg "all" = none
  list : mg "list" = none
  min : mg "min" = none
  max : mg "max" = none
  range : mg "range" = none
  set : mg "set" = none
  sorted : mg "sorted" = none
theorem boot_isi : bootBuiltins "isinstance" = some (.builtin "isinstance") := by first | rfl | decide +kernel
theorem boot_int' : bootBuiltins "int" = some (.type "int") := by first | rfl | decide +kernel
theorem boot_bool' : bootBuiltins "bool" = some (.type "bool") := by first | rfl | decide +kernel
theorem boot_tuple' : bootBuiltins "tuple" = some (.type "tuple") := by first | rfl | decide +kernel
theorem boot_list' : bootBuiltins "list" = some (.type "list") := by first | rfl | decide +kernel
theorem boot_all' : bootBuiltins "all" = some (.builtin "all") := by first | rfl | decide +kernel
theorem boot_min' : bootBuiltins "min" = some (.builtin "min") := by first | rfl | decide +kernel
theorem boot_max' : bootBuiltins "max" = some (.builtin "max") := by first | rfl | decide +kernel
theorem boot_sorted' : bootBuiltins "sorted" = some (.builtin "sorted") := by first | rfl | decide +kernel
def InN (n : Int) (p : Int × Int) : Prop := 0 <= p.1 /\ p.1 < n /\ 0 <= p.2 /\ p.2 < n
theorem mod_in (a n : Int) (h : 0 < n) : 0 <= a % n /\ a % n < n := ⟨Int.emod_nonneg _ (by lia), Int.emod_lt_of_pos _ h⟩
def ups (n : Int) : List Int := (List.range n.toNat).map fun (i : Nat) => (i : Int)
theorem upN_ups (n : Nat) : upN n = (ups n).map V.int := by
  unfold upN ups
  rw [List.map_map, Int.toNat_natCast]
  rfl
def at0 (l : List Int) (i : Int) : Int := l.getD i.toNat 0
def stepH (hs : List Int) (p : Int × Int) : List Int :=
  hs.map fun h => if h = (if at0 hs p.2 > at0 hs p.1 then at0 hs p.2 else at0 hs p.1) then (if at0 hs p.2 < at0 hs p.1 then at0 hs p.2 else at0 hs p.1) else h
def tieN (ps : List (Int × Int)) (k : Int) : Int × Int := ps.getD k.toNat (0, 0)
def hdF (ps : List (Int × Int)) (hs : List Int) (ks : List Int) : List Int := ks.foldl (fun hs k => stepH hs (tieN ps k)) hs
def stepM (st : List Int × Int) (p : Int × Int) : List Int × Int :=
  if at0 st.1 p.1 = at0 st.1 p.2 then st else (st.1.map fun m => if m = at0 st.1 p.2 then at0 st.1 p.1 else m, st.2 + 1)
def rkF (ps : List (Int × Int)) (st : List Int × Int) (ks : List Int) : List Int × Int := ks.foldl (fun st k => stepM st (tieN ps k)) st
def rk (n : Int) (ps : List (Int × Int)) (ks : List Int) : Int := (rkF ps (ups n, 0) ks).2
theorem dcr_merge (u v : Int) (huv : u ≠ v) : ∀ l : List Int, dcr (l.map fun x => if x = v then u else x) + (if u ∈ l /\ v ∈ l then 1 else 0) = dcr l
  | [] => by simp [dcr]
  | x :: xs => by
    have ih := dcr_merge u v huv xs
    have mem : ∀ z, z ≠ v -> (z ∈ xs.map (fun x => if x = v then u else x) ↔ z ∈ xs \/ (z = u /\ v ∈ xs)) := by
      intro z hz
      rw [List.mem_map]
      constructor
      · rintro ⟨y, hy, e⟩
        by_cases hyv : y = v
        · rw [if_pos hyv] at e
          exact .inr ⟨e.symm, hyv ▸ hy⟩
        · rw [if_neg hyv] at e
          exact .inl (e ▸ hy)
      · rintro (h | ⟨rfl, h⟩)
        · exact ⟨z, h, if_neg hz⟩
        · exact ⟨v, h, if_pos rfl⟩
    rw [List.map_cons]
    show dcr (xs.map fun x => if x = v then u else x) + (if (if x = v then u else x) ∈ xs.map (fun x => if x = v then u else x) then 0 else 1) + _ = dcr xs + if x ∈ xs then 0 else 1
    generalize hd : dcr (xs.map fun x => if x = v then u else x) = d at ih
    generalize hd2 : dcr xs = d2 at ih
    by_cases hxv : x = v
    · subst hxv
      rw [if_pos rfl]
      have m := mem u huv
      by_cases h1 : u ∈ xs <;> by_cases h2 : x ∈ xs <;> simp [m, h1, h2, huv] at ih ⊢ <;> lia
    · rw [if_neg hxv]
      have m := mem x hxv
      by_cases hxu : x = u
      · subst hxu
        by_cases h1 : x ∈ xs <;> by_cases h2 : v ∈ xs <;> simp [m, h1, h2, Ne.symm huv] at ih ⊢ <;> lia
      · have e1 : ¬ (u = x) := fun z => hxu z.symm
        have e2 : ¬ (v = x) := fun z => hxv z.symm
        by_cases h1 : u ∈ xs <;> by_cases h2 : v ∈ xs <;> by_cases h3 : x ∈ xs <;> simp [m, h1, h2, h3, e1, e2, hxu] at ih ⊢ <;> lia
theorem dcount_merge {u v : Int} (huv : u ≠ v) {l : List Int} (h1 : u ∈ l) (h2 : v ∈ l) : dcount (l.map fun x => if x = v then u else x) + 1 = dcount l := by
  unfold dcount
  rw [<- List.map_reverse]
  have := dcr_merge u v huv l.reverse
  rw [if_pos ⟨List.mem_reverse.mpr h1, List.mem_reverse.mpr h2⟩] at this
  exact this
def Rel (n : Nat) (hs ms : List Int) : Prop := ∀ i j, i < n -> j < n -> (hs.getD i 0 = hs.getD j 0 ↔ ms.getD i 0 = ms.getD j 0)
theorem getD_map {l : List Int} {f : Int -> Int} {i : Nat} (h : i < l.length) : (l.map f).getD i 0 = f (l.getD i 0) := by simp [List.getD, h]
theorem getD_mem {l : List Int} {i : Nat} (h : i < l.length) : l.getD i 0 ∈ l := by simp [List.getD, h]
theorem stepH_same {hs : List Int} {p : Int × Int} (h : at0 hs p.1 = at0 hs p.2) : stepH hs p = hs := by
  unfold stepH
  rw [h]
  have e : (fun x : Int => if x = (if at0 hs p.2 > at0 hs p.2 then at0 hs p.2 else at0 hs p.2) then (if at0 hs p.2 < at0 hs p.2 then at0 hs p.2 else at0 hs p.2) else x) = id := by
    funext x
    show _ = x
    split <;> simp_all
  rw [e, List.map_id]
theorem stepH_ne {hs : List Int} {p : Int × Int} (h : at0 hs p.1 ≠ at0 hs p.2) : ∃ u v, u ≠ v /\ stepH hs p = hs.map (fun x => if x = v then u else x) /\ ((u = at0 hs p.1 /\ v = at0 hs p.2) \/ (u = at0 hs p.2 /\ v = at0 hs p.1)) := by
  unfold stepH
  by_cases hlt : at0 hs p.2 < at0 hs p.1
  · refine ⟨at0 hs p.2, at0 hs p.1, fun z => h z.symm, ?_, .inr ⟨rfl, rfl⟩⟩
    rw [if_neg (by lia), if_pos hlt]
  · have : at0 hs p.2 > at0 hs p.1 := by lia
    refine ⟨at0 hs p.1, at0 hs p.2, h, ?_, .inl ⟨rfl, rfl⟩⟩
    rw [if_pos this, if_neg hlt]
theorem norm_cases (p : Int × Int) : (norm p).1 = p.1 /\ (norm p).2 = p.2 \/ (norm p).1 = p.2 /\ (norm p).2 = p.1 := by
  unfold norm
  split
  · exact .inl ⟨rfl, rfl⟩
  · exact .inr ⟨rfl, rfl⟩
theorem merge_eq {u v x y : Int} (huv : u ≠ v) : ((if x = v then u else x) = (if y = v then u else y)) ↔ (x = y \/ ((x = u \/ x = v) /\ (y = u \/ y = v))) := by
  split <;> split <;> lia
theorem step_inv {n : Nat} {hs ms : List Int} {c : Int} {p : Int × Int} (lh : hs.length = n) (lm : ms.length = n) (R : Rel n hs ms) (hc : c + (dcount hs : Int) = n) (hp : InN n p) :
    (stepH hs (norm p)).length = n /\ (stepM (ms, c) p).1.length = n /\ Rel n (stepH hs (norm p)) (stepM (ms, c) p).1 /\ (stepM (ms, c) p).2 + (dcount (stepH hs (norm p)) : Int) = n := by
  obtain ⟨p1, p2, p3, p4⟩ := hp
  have a1 : p.1.toNat < n := by lia
  have a2 : p.2.toNat < n := by lia
  have r12 := R p.1.toNat p.2.toNat a1 a2
  have swap : at0 hs (norm p).1 = at0 hs (norm p).2 ↔ at0 hs p.1 = at0 hs p.2 := by
    rcases norm_cases p with ⟨e1, e2⟩ | ⟨e1, e2⟩ <;> rw [e1, e2]
    exact eq_comm
  by_cases he : at0 hs p.1 = at0 hs p.2
  · have em : at0 ms p.1 = at0 ms p.2 := r12.mp he
    have e1 : stepH hs (norm p) = hs := stepH_same (swap.mpr he)
    have e2 : stepM (ms, c) p = (ms, c) := by unfold stepM; exact if_pos em
    rw [e1, e2]
    exact ⟨lh, lm, R, hc⟩
  · have em : ¬ at0 ms p.1 = at0 ms p.2 := fun z => he (r12.mpr z)
    have e2 : stepM (ms, c) p = (ms.map (fun m => if m = at0 ms p.2 then at0 ms p.1 else m), c + 1) := by unfold stepM; exact if_neg em
    obtain ⟨u, v, huv, e1, hu⟩ := stepH_ne (hs := hs) (p := norm p) (fun z => he (swap.mp z))
    have hu' : (u = at0 hs p.1 /\ v = at0 hs p.2) \/ (u = at0 hs p.2 /\ v = at0 hs p.1) := by
      rcases norm_cases p with ⟨f1, f2⟩ | ⟨f1, f2⟩ <;> rw [f1, f2] at hu
      · exact hu
      · exact hu.symm
    have m1 : at0 hs p.1 ∈ hs := getD_mem (by lia)
    have m2 : at0 hs p.2 ∈ hs := getD_mem (by lia)
    have mu : u ∈ hs := by rcases hu' with ⟨z, _⟩ | ⟨z, _⟩ <;> rw [z] <;> assumption
    have mv : v ∈ hs := by rcases hu' with ⟨_, z⟩ | ⟨_, z⟩ <;> rw [z] <;> assumption
    rw [e1, e2]
    refine ⟨by rw [List.length_map]; exact lh, by rw [List.length_map]; exact lm, fun i j hi hj => ?_, ?_⟩
    · rw [getD_map (by lia), getD_map (by lia), getD_map (by lia), getD_map (by lia), merge_eq huv, merge_eq em]
      have ri := R i p.1.toNat hi a1
      have ri2 := R i p.2.toNat hi a2
      have rj := R j p.1.toNat hj a1
      have rj2 := R j p.2.toNat hj a2
      have rij := R i j hi hj
      have ti : (hs.getD i 0 = u \/ hs.getD i 0 = v) ↔ (ms.getD i 0 = at0 ms p.1 \/ ms.getD i 0 = at0 ms p.2) := by
        rcases hu' with ⟨z1, z2⟩ | ⟨z1, z2⟩
        · rw [z1, z2]; exact or_congr ri ri2
        · rw [z1, z2]; exact (or_congr ri2 ri).trans or_comm
      have tj : (hs.getD j 0 = u \/ hs.getD j 0 = v) ↔ (ms.getD j 0 = at0 ms p.1 \/ ms.getD j 0 = at0 ms p.2) := by
        rcases hu' with ⟨z1, z2⟩ | ⟨z1, z2⟩
        · rw [z1, z2]; exact or_congr rj rj2
        · rw [z1, z2]; exact (or_congr rj2 rj).trans or_comm
      exact or_congr rij (and_congr ti tj)
    · have := dcount_merge huv mu mv
      show c + 1 + (dcount (hs.map fun x => if x = v then u else x) : Int) = n
      lia
theorem tieN_in {n : Int} {ps : List (Int × Int)} {k : Int} (hb : ∀ p ∈ ps, InN n p) (k0 : 0 <= k) (kl : k < ps.length) : InN n (tieN ps k) := by
  have : k.toNat < ps.length := by lia
  unfold tieN
  refine hb _ ?_
  simp [List.getD, this]
theorem tieN_norm {ps : List (Int × Int)} {k : Int} (k0 : 0 <= k) (kl : k < ps.length) : tieN (ps.map norm) k = norm (tieN ps k) := by
  have : k.toNat < ps.length := by lia
  unfold tieN
  simp [List.getD, this]
theorem run_inv {n : Nat} {ps : List (Int × Int)} (hb : ∀ p ∈ ps, InN n p) : ∀ (ks : List Int), (∀ k ∈ ks, 0 <= k /\ k < ps.length) -> ∀ (hs ms : List Int) (c : Int), hs.length = n -> ms.length = n -> Rel n hs ms -> c + (dcount hs : Int) = n ->
    (rkF ps (ms, c) ks).2 + (dcount (hdF (ps.map norm) hs ks) : Int) = n
  | [], _, hs, ms, c, _, _, _, hc => hc
  | k :: ks, hk, hs, ms, c, lh, lm, R, hc => by
    obtain ⟨k0, kl⟩ := hk k List.mem_cons_self
    obtain ⟨s1, s2, s3, s4⟩ := step_inv lh lm R hc (tieN_in hb k0 kl)
    have := run_inv hb ks (fun j hj => hk j (List.mem_cons_of_mem _ hj)) _ _ _ s1 s2 s3 s4
    rw [<- tieN_norm k0 kl] at this
    exact this
theorem ups_len (n : Int) : (ups n).length = n.toNat := by unfold ups; simp
theorem nine {n : Int} (h1 : 1 <= n) (h9 : n <= 9) : n = 1 \/ n = 2 \/ n = 3 \/ n = 4 \/ n = 5 \/ n = 6 \/ n = 7 \/ n = 8 \/ n = 9 := by lia
theorem ups_dc {n : Int} (h1 : 1 <= n) (h9 : n <= 9) : (dcount (ups n) : Int) = n := by
  rcases nine h1 h9 with rfl | rfl | rfl | rfl | rfl | rfl | rfl | rfl | rfl <;> decide +kernel
theorem rank_eq {n : Int} {ps : List (Int × Int)} {ks : List Int} (h1 : 1 <= n) (h9 : n <= 9) (hb : ∀ p ∈ ps, InN n p) (hk : ∀ k ∈ ks, 0 <= k /\ k < ps.length) : n - (dcount (hdF (ps.map norm) (ups n) ks) : Int) = rk n ps ks := by
  have e : ((n.toNat : Nat) : Int) = n := by lia
  have := run_inv (n := n.toNat) (ps := ps) (by rw [e]; exact hb) ks hk (ups n) (ups n) 0 (ups_len n) (ups_len n) (fun i j _ _ => Iff.rfl) (by rw [ups_dc h1 h9]; lia)
  unfold rk
  lia
theorem stepH_len (hs : List Int) (p : Int × Int) : (stepH hs p).length = hs.length := by unfold stepH; simp
theorem hdF_snoc (ps : List (Int × Int)) (hs ks : List Int) (k : Int) : hdF ps hs (ks ++ [k]) = stepH (hdF ps hs ks) (tieN ps k) := by unfold hdF; rw [List.foldl_append]; rfl
theorem hdF_len (ps : List (Int × Int)) : ∀ (ks hs : List Int), (hdF ps hs ks).length = hs.length
  | [], _ => rfl
  | k :: ks, hs => by
    show (hdF ps (stepH hs (tieN ps k)) ks).length = _
    rw [hdF_len ps ks, stepH_len]
theorem boot_range' : bootBuiltins "range" = some (.type "range") := by first | rfl | decide +kernel
theorem boot_set' : bootBuiltins "set" = some (.type "set") := by first | rfl | decide +kernel
theorem for_seqK {k : Kd} {K : W.Frag} {a : Addr} {xs : List V} {g : TG} {tb : TS} {D : Ends} {σ : St} {H : Hp} (Pv : Nat -> St -> Hp -> Prop) (h0 : Pv 0 σ H) (hl : ∀ i σ H, i <= xs.length -> Pv i σ H -> SqK k K H a xs)
    (hs : ∀ (i : Nat) (x : V) (σ : St) (H : Hp), xs[i]? = some x -> Pv i σ H -> g x σ H fun σ2 H2 => tb { D with nx := Pv (i + 1), ct := Pv (i + 1), bk := D.nx } σ2 H2) (hd : ∀ σ H, Pv xs.length σ H -> D.nx σ H) :
    ∃ W : Nat -> Nat -> St -> Hp -> Prop, (∃ m, W 0 m σ H) /\ ∀ i m σ H, W i m σ H ->
      ((ItK k K a).stop i H /\ D.nx σ H) \/ ((ItK k K a).go i H /\ ∃ N : St -> Hp -> Prop, (∀ σ' H', N σ' H' -> ∃ m', m' < m /\ W (i + 1) m' σ' H') /\ ∀ x H', (ItK k K a).yld i H x H' -> g x σ H' fun σ2 H2 => tb { D with nx := N, ct := N, bk := D.nx } σ2 H2) := by
  refine ⟨fun i m σ H => m = xs.length - i /\ i <= xs.length /\ Pv i σ H, ⟨xs.length, by simp, Nat.zero_le _, h0⟩, ?_⟩
  rintro i m σ H ⟨rfl, hi, p⟩
  have q := hl i σ H hi p
  by_cases hlt : i < xs.length
  · refine .inr ⟨itk_go q hlt, Pv (i + 1), fun σ' H' p' => ⟨xs.length - (i + 1), by lia, rfl, hlt, p'⟩, fun x H' y => ?_⟩
    obtain ⟨e, hy2⟩ := itk_yld q y
    subst e
    exact hs i x σ H' hy2 p
  · have e : i = xs.length := by lia
    subst e
    exact .inl ⟨itk_stop q (Nat.le_refl _), hd σ H p⟩
theorem at_int {l : List Int} {i : Int} (h0 : 0 <= i) (hl : i < l.length) : atI (l.map V.int) i = some (.int (at0 l i)) := by
  obtain ⟨j, rfl⟩ := Int.eq_ofNat_of_zero_le h0
  have hj : j < l.length := by lia
  refine atI_nat ?_
  unfold at0
  simp [List.getD, hj]
theorem at_tie {H : Hp} {xs : List V} {ps : List (Int × Int)} (h : Paired (TieAt H) xs ps) {k : Int} (h0 : 0 <= k) (hl : k < ps.length) : ∃ c, atI xs k = some (.ref c) /\ H c = some (.tup [.int (tieN ps k).1, .int (tieN ps k).2]) := by
  obtain ⟨j, rfl⟩ := Int.eq_ofNat_of_zero_le h0
  have xl := Paired.length h
  have hj : j < xs.length := by lia
  obtain ⟨p, e1, c, e2, e3⟩ := Paired.at h (show xs[j]? = some xs[j] by simp [hj])
  refine ⟨c, atI_nat (by rw [List.getElem?_eq_getElem hj, e2]), ?_⟩
  have : tieN ps (j : Int) = p := by
    unfold tieN
    rw [Int.toNat_natCast, List.getD_eq_getElem?_getD, e1]
    rfl
  rw [this]
  exact e3
def Ks (m : Nat) (ks : List Int) : Prop := ∀ k ∈ ks, 0 <= k /\ k < (m : Int)
def spHeads (K : W.Frag) : Sp := fun vs H Q _ => ∃ (wv : V) (pk : Addr) (n : Int) (ps : List (Int × Int)) (ks : List Int), vs = [wv, .ref pk] /\ WebAt H wv n ps /\ 1 <= n /\ n <= 9 /\ (∀ p ∈ ps, InN n p) /\ SqT K H pk (ks.map V.int) /\ Ks ps.length ks /\
  ∀ l H', Same H H' -> H' l = some (.lst ((hdF ps (ups n) ks).map V.int)) -> Q (.ref l) H'
theorem ten_line {n : Nat} (h : n <= 10) : n < sizeLine := Nat.lt_of_le_of_lt h (by decide)
section
variable {P : Program} {w : World} {K : W.Frag} {mg : Str -> Option Value} {base : Heap}
theorem scHeads : FnScope ["web", "pick", "heads", "k", "tie", "low", "high"] ["web", "pick"] (defScope sHeads) := ⟨rfl, rfl, rfl, by decide +kernel, rfl, by decide +kernel, by decide +kernel⟩
theorem nd3 : (["head", "high", "low"] : List Str).Nodup := by decide +kernel
theorem d_heads (T : Txt K mg) (S : Src K mg "heads_of" sHeads ["web", "pick"]) : Def P w K mg base 1 "heads_of" ["web", "pick"] (spHeads K) := by
  refine S.def scHeads (fun vs H Q E h => ?_) (fun f cdv A outer s H vs Q E hr h => ?_)
  · obtain ⟨_, _, _, _, _, rfl, _⟩ := h; rfl
  · obtain ⟨wv, pk, n, ps, ks, rfl, W, n1, n9, hb, hk, hks, q⟩ := h
    obtain ⟨c, d, xs, rfl, hc, hd, ht⟩ := W.ex
    obtain ⟨m, rfl⟩ := Int.eq_ofNat_of_zero_le (show 0 <= n by lia)
    refine ⟨_, pss_cons (ps_set (i := 2) scHeads.nd rfl (Or.inl rfl) (pe_callTy (call_list_rng rfl) rfl T.list boot_list' (pa_cons (pe_callTy call_range1 rfl T.range boot_range' (pa_cons (pe_ix (ix_tupK K) (pv 0) pe_int (fun _ _ => rfl)) pa_nil)) pa_nil)))
      (pss_cons (ps_for PassesOwn.never rfl (pi_seqK K .t (pv 1)) (pg_name (i := 3) scHeads.nd rfl (Or.inl rfl))
        (pss_cons (ps_set (i := 4) scHeads.nd rfl (Or.inl rfl) (pe_ix (ix_tupK K) (pe_ix (ix_tupK K) (pv 0) pe_int (fun _ _ => rfl)) (pv 3) (fun _ _ => rfl)))
        (pss_cons (ps_set (i := 5) scHeads.nd rfl (Or.inr rfl) (pe_callB (call_min2 rfl) (by rfl) T.min boot_min' (pa_cons (pe_ix (ix_listK K) (pv 2) (pe_ix (ix_tupK K) (pv 4) pe_int (fun _ _ => rfl)) (fun _ _ => rfl)) (pa_cons (pe_ix (ix_listK K) (pv 2) (pe_ix (ix_tupK K) (pv 4) pe_int (fun _ _ => rfl)) (fun _ _ => rfl)) pa_nil))))
        (pss_cons (ps_set (i := 6) scHeads.nd rfl (Or.inr rfl) (pe_callB (call_max2 rfl) (by rfl) T.max boot_max' (pa_cons (pe_ix (ix_listK K) (pv 2) (pe_ix (ix_tupK K) (pv 4) pe_int (fun _ _ => rfl)) (fun _ _ => rfl)) (pa_cons (pe_ix (ix_listK K) (pv 2) (pe_ix (ix_tupK K) (pv 4) pe_int (fun _ _ => rfl)) (fun _ _ => rfl)) pa_nil))))
        (pss_one (ps_setComp (i := 2) scHeads.nd rfl (Or.inl rfl) (N' := ["head", "high", "low"]) (fr := [none, some 6, some 5]) (compOk_of (by rfl)) rfl (pi_seqK K .l (pv 2))
          (fun _ _ _ _ => pg_name (i := 0) nd3 rfl (Or.inl rfl) (Or.inr rfl)) (fun _ _ _ _ => pifs_nil)
          (fun _ _ _ _ => pe_ifExp (pt_cmpR op_eq (pv 0) (pv 1) (nomark _)) (pv 2) (pv 0))))))))
      (pss_one (ps_ret (pv 2)))), ?_⟩
    have i0 : atI ([.int m, .ref d] : List V) 0 = some (.int m) := atI_nat (j := 0) rfl
    have i1 : atI ([.int m, .ref d] : List V) 1 = some (.ref d) := atI_nat (j := 1) rfl
    refine ⟨_, rfl, c, _, _, _, rfl, rfl, SqT.of hc, i0, _, rfl, fun p hp => ⟨p, m, rfl, upd_same, by lia, fun l hl => ?_⟩⟩
    have s1 := (Same.new (o := HO.rng 0 m) hp).trans (Same.new (o := HO.lst (upN m)) hl)
    have hl1 : (upd (upd H p (.rng 0 m)) l (.lst (upN m))) l = some (.lst ((ups m).map V.int)) := by rw [upd_same, upN_ups]
    generalize upd (upd H p (.rng 0 m)) l (.lst (upN m)) = H1 at s1 hl1 ⊢
    refine ⟨_, rfl, pk, rfl, ⟨_, s1.tup hk⟩, for_seqK (k := .t) (K := K) (a := pk) (xs := ks.map V.int) (fun i σ H' => ∃ l u v t r, σ = [some (.ref c), some (.ref pk), some (.ref l), u, v, t, r] /\ Same H H' /\ H' l = some (.lst ((hdF ps (ups m) (ks.take i)).map V.int))) ⟨l, _, _, _, _, rfl, s1, hl1⟩ (fun i σ H' _ ⟨_, _, _, _, _, _, z, _⟩ => z.tup hk) ?_ ?_⟩
    · rintro i x σ H' hx ⟨l, u, v, t, r, rfl, sm, hl⟩
      obtain ⟨k, ek, rfl⟩ : ∃ k, ks[i]? = some k /\ V.int k = x := by
        rw [List.getElem?_map] at hx
        cases e : ks[i]? with
        | none => rw [e] at hx; simp at hx
        | some k => rw [e] at hx; simp at hx; exact ⟨k, rfl, hx⟩
      obtain ⟨k0, kl⟩ := hks k (List.mem_of_getElem? ek)
      obtain ⟨tc, et, htc⟩ := at_tie ht k0 kl
      obtain ⟨b1, b2, b3, b4⟩ := tieN_in hb k0 kl
      generalize hhs : hdF ps (ups m) (ks.take i) = hs at hl
      have hsl : hs.length = m := by rw [<- hhs, hdF_len, ups_len]; simp
      have t0 : atI ([.int (tieN ps k).1, .int (tieN ps k).2] : List V) 0 = some (.int (tieN ps k).1) := atI_nat (j := 0) rfl
      have t1 : atI ([.int (tieN ps k).1, .int (tieN ps k).2] : List V) 1 = some (.int (tieN ps k).2) := atI_nat (j := 1) rfl
      have a0 := at_int (l := hs) (i := (tieN ps k).1) b1 (by lia)
      have a1 := at_int (l := hs) (i := (tieN ps k).2) b3 (by lia)
      have htc' := sm _ _ htc
      dsimp only [gName, List.set]
      refine ⟨_, rfl, c, _, _, _, rfl, rfl, SqT.of (sm _ _ hc), i1, _, rfl, d, _, _, _, rfl, rfl, SqT.of (sm _ _ hd), et, ?_⟩
      refine ⟨_, rfl, _, rfl, tc, _, _, _, rfl, rfl, SqT.of htc', t0, l, _, _, _, rfl, rfl, SqL.of hl, a0, _, rfl, _, rfl, tc, _, _, _, rfl, rfl, SqT.of htc', t1, l, _, _, _, rfl, rfl, SqL.of hl, a1, _, _, rfl, ?_⟩
      refine ⟨_, rfl, _, rfl, tc, _, _, _, rfl, rfl, SqT.of htc', t0, l, _, _, _, rfl, rfl, SqL.of hl, a0, _, rfl, _, rfl, tc, _, _, _, rfl, rfl, SqT.of htc', t1, l, _, _, _, rfl, rfl, SqL.of hl, a1, _, _, rfl, ?_⟩
      generalize hlow : (if at0 hs (tieN ps k).2 < at0 hs (tieN ps k).1 then at0 hs (tieN ps k).2 else at0 hs (tieN ps k).1) = low
      generalize hhigh : (if at0 hs (tieN ps k).2 > at0 hs (tieN ps k).1 then at0 hs (tieN ps k).2 else at0 hs (tieN ps k).1) = high
      refine ⟨_, rfl, l, rfl, ⟨_, SqL.of hl⟩, comp_seq (k := .l) (a := l) (xs := hs.map V.int) (fun σ => ∃ v, σ = [v, some (.int high), some (.int low)]) (fun j ys H2 => H2 = H' /\ ys = (hs.take j).map fun h => V.int (if h = high then low else h)) ⟨_, rfl⟩ ⟨rfl, rfl⟩ (by rw [List.length_map]; exact ten_line (by lia)) (fun j ys H2 _ z => SqL.of (by rw [z.1]; exact hl)) ?_ ?_⟩
      · rintro j x ys σ H2 N hx ⟨u, rfl⟩ ⟨rfl, rfl⟩ hN
        obtain ⟨h0, eh, rfl⟩ : ∃ h0, hs[j]? = some h0 /\ V.int h0 = x := by
          rw [List.getElem?_map] at hx
          cases e : hs[j]? with
          | none => rw [e] at hx; simp at hx
          | some k => rw [e] at hx; simp at hx; exact ⟨k, rfl, hx⟩
        dsimp only [gName, List.set]
        refine yesT ?_
        refine ⟨_, rfl, _, rfl, rfl, _, rfl, ?_⟩
        by_cases he : h0 = high
        · rw [decide_eq_true (show V.int h0 = V.int high by rw [he])]
          refine iteT ⟨_, rfl, ?_⟩
          refine hN _ _ _ ⟨_, rfl⟩ ⟨rfl, ?_⟩ (by simp)
          rw [take_succ_of eh, List.map_append, List.map_cons, List.map_nil, if_pos he]
        · rw [decide_eq_false (show ¬ V.int h0 = V.int high from fun z => he (by injection z))]
          refine iteF ⟨_, rfl, ?_⟩
          refine hN _ _ _ ⟨_, rfl⟩ ⟨rfl, ?_⟩ (by simp)
          rw [take_succ_of eh, List.map_append, List.map_cons, List.map_nil, if_neg he]
      · rintro ys H2 ⟨rfl, rfl⟩ p2 hp2
        refine ⟨p2, _, _, _, _, rfl, sm.trans (Same.new hp2), ?_⟩
        rw [upd_same, take_succ_of ek, hdF_snoc, hhs]
        unfold stepH
        rw [hlow, hhigh, List.length_map, List.take_length, List.map_map]
        rfl
    · rintro σ H' ⟨l, u, v, t, r, rfl, sm, hl⟩
      rw [List.length_map, List.take_length] at hl
      exact ⟨_, rfl, q l H' sm hl⟩
end
def spWPF : Sp := fun vs H Q _ => ∃ (wv : V) (n : Int) (ps : List (Int × Int)), vs = [wv] /\ WebAt H wv n ps /\ ps.length <= 8 /\ ∀ t H', Same H H' -> FzT H' t ((ups ps.length).map V.int) -> Q (.ref t) H'
section
variable {P : Program} {w : World} {K : W.Frag} {mg : Str -> Option Value} {base : Heap}
theorem scWP : FnScope ["web"] ["web"] (defScope sWhole) := ⟨rfl, rfl, rfl, by decide +kernel, rfl, by decide +kernel, by decide +kernel⟩
theorem d_wp (T : Txt K mg) (S : Src K mg "whole_pick" sWhole ["web"]) : Def P w K mg base 1 "whole_pick" ["web"] spWPF := by
  refine S.def scWP (fun vs H Q E h => ?_) (fun f cdv A outer s H vs Q E hr h => ?_)
  · obtain ⟨i, _, _, rfl, _⟩ := h; rfl
  · obtain ⟨wv, n, ps, rfl, W, hl8, q⟩ := h
    obtain ⟨c, d, xs, rfl, hc, hd, ht⟩ := W.ex
    have xl : xs.length = ps.length := Paired.length ht
    refine ⟨_, pss_one (ps_ret (pe_callTy (call_tuple_rngF rfl) rfl T.tuple boot_tuple' (pa_cons (pe_callTy call_range1 rfl T.range boot_range' (pa_cons (pe_callB (call_lenK K) (by rfl) T.len PySem.boot_len (pa_cons (pe_ix (ix_tupK K) (pv 0) pe_int (fun _ _ => rfl)) pa_nil)) pa_nil)) pa_nil))), ?_⟩
    have i1 : atI ([.int n, .ref d] : List V) 1 = some (.ref d) := atI_nat (j := 1) rfl
    refine ⟨_, rfl, c, _, _, _, rfl, rfl, SqT.of hc, i1, d, xs, rfl, .inr (SqT.of hd), _, rfl, fun p hp => ⟨p, xs.length, rfl, upd_same, by lia, fun l o oc od hl => ?_⟩⟩
    refine q l _ ((Same.new hp).trans (Same.new hl)) ?_
    rw [upN_ups, xl]
    exact FzT.new oc od
end
def spRank (K : W.Frag) : Sp := fun vs H Q _ => ∃ (wv : V) (pk : Addr) (n : Int) (ps : List (Int × Int)) (ks : List Int), vs = [wv, .ref pk] /\ WebAt H wv n ps /\ 1 <= n /\ n <= 9 /\ (∀ p ∈ ps, InN n p) /\ SqT K H pk (ks.map V.int) /\ Ks ps.length ks /\
  ∀ H', Same H H' -> Q (.int (n - (dcount (hdF ps (ups n) ks) : Int))) H'
section
variable {P : Program} {w : World} {K : W.Frag} {mg : Str -> Option Value} {base : Heap}
theorem scRank : FnScope ["web", "pick"] ["web", "pick"] (defScope sRank) := ⟨rfl, rfl, rfl, by decide +kernel, rfl, by decide +kernel, by decide +kernel⟩
theorem d_rank (T : Txt K mg) (hset : mg "set" = none) (S : Src K mg "rank_of" sRank ["web", "pick"]) (DH : Def P w K mg base 1 "heads_of" ["web", "pick"] (spHeads K)) : Def P w K mg base 2 "rank_of" ["web", "pick"] (spRank K) := by
  refine S.def scRank (fun vs H Q E h => ?_) (fun f cdv A outer s H vs Q E hr h => ?_)
  · obtain ⟨_, _, _, _, _, rfl, _⟩ := h; rfl
  · obtain ⟨wv, pk, n, ps, ks, rfl, W, n1, n9, hb, hk, hks, q⟩ := h
    obtain ⟨c, d, xs, rfl, hc, hd, ht⟩ := W.ex
    refine ⟨_, pss_one (ps_ret (pe_op op_sub (pe_ix (ix_tupK K) (pv 0) pe_int (fun _ _ => rfl)) (pe_callB call_len_setH (by rfl) T.len PySem.boot_len (pa_cons (pe_callTy (call_set_ints rfl) rfl hset boot_set' (pa_cons (pe_def DH hr rfl (pa_cons (pv 0) (pa_cons (pv 1) pa_nil))) pa_nil)) pa_nil)))), ?_⟩
    have i0 : atI ([.int n, .ref d] : List V) 0 = some (.int n) := atI_nat (j := 0) rfl
    refine ⟨_, rfl, c, _, _, _, rfl, rfl, SqT.of hc, i0, _, rfl, _, rfl, .ref c, pk, n, ps, ks, rfl, W, n1, n9, hb, hk, hks, fun l H1 s1 hl => ?_⟩
    refine ⟨l, _, rfl, SqL.of hl, by rw [hdF_len, ups_len]; lia, fun a S0 ha => ⟨a, S0, _, rfl, upd_same, _, _, rfl, rfl, ?_⟩⟩
    exact q _ (s1.trans (Same.new ha))
end
def spRankW (K : W.Frag) : Sp := fun vs H Q _ => ∃ (wv : V) (n : Int) (ps : List (Int × Int)), vs = [wv] /\ WebAt H wv n ps /\ 1 <= n /\ n <= 9 /\ (∀ p ∈ ps, InN n p) /\ ps.length <= 8 /\
  ∀ H', Same H H' -> Q (.int (n - (dcount (hdF ps (ups n) (ups ps.length)) : Int))) H'
theorem ups_ks (m : Nat) : Ks m (ups m) := by
  intro k hk
  unfold ups at hk
  obtain ⟨i, hi, rfl⟩ := List.mem_map.mp hk
  have : i < (m : Int).toNat := List.mem_range.mp hi
  lia
section
variable {P : Program} {w : World} {K : W.Frag} {mg : Str -> Option Value} {base : Heap}
theorem scRankW : FnScope ["web"] ["web"] (defScope sRankW) := ⟨rfl, rfl, rfl, by decide +kernel, rfl, by decide +kernel, by decide +kernel⟩
theorem d_rankw (S : Src K mg "rank_of_web" sRankW ["web"]) (DP : Def P w K mg base 1 "whole_pick" ["web"] spWPF) (DR : Def P w K mg base 2 "rank_of" ["web", "pick"] (spRank K)) : Def P w K mg base 3 "rank_of_web" ["web"] (spRankW K) := by
  refine S.def scRankW (fun vs H Q E h => ?_) (fun f cdv A outer s H vs Q E hr h => ?_)
  · obtain ⟨_, _, _, rfl, _⟩ := h; rfl
  · obtain ⟨wv, n, ps, rfl, W, n1, n9, hb, hl8, q⟩ := h
    have hr1 : Room 1 _ := hr.mono (by decide)
    have hr2 : Room 2 _ := hr.mono (by decide)
    refine ⟨_, pss_one (ps_ret (pe_def DR hr2 rfl (pa_cons (pv 0) (pa_cons (pe_def DP hr1 rfl (pa_cons (pv 0) pa_nil)) pa_nil)))), ?_⟩
    refine ⟨_, rfl, _, rfl, wv, n, ps, rfl, W, hl8, fun t H1 s1 ht1 => ?_⟩
    exact ⟨wv, t, n, ps, ups ps.length, rfl, W.same s1, n1, n9, hb, FzT.sq ht1, ups_ks _, fun H2 s2 => q H2 (s1.trans s2)⟩
end
end My
namespace My
def first (p : List Int) : Int := match p.getLast? with | none => 0 | some x => x + 1
def more (m : Int) (p : List Int) : List (List Int) := (List.range (m - first p).toNat).map fun (k : Nat) => p ++ [first p + (k : Int)]
def level (m : Int) : Nat -> List (List Int)
  | 0 => [[]]
  | s + 1 => (level m s).flatMap (more m)
def upto (m : Int) : Nat -> List (List Int)
  | 0 => []
  | s + 1 => upto m s ++ level m s
def lexLe' (z : Bool) : List Int -> List Int -> Bool
  | [], _ => z
  | _ :: _, [] => z
  | x :: xs, y :: ys => if x = y then lexLe' z xs ys else decide (x <= y)
def leq (p q : List Int) : Bool := if p.length = q.length then lexLe' (decide (p.length <= q.length)) p q else decide (p.length <= q.length)
def rising : List Int -> Bool
  | [] => true
  | [_] => true
  | x :: y :: r => decide (x < y) && rising (y :: r)
def okPick (m : Int) (p : List Int) : Bool := p.all (fun x => decide (0 <= x) && decide (x < m)) && rising p && decide (p.length <= 8)
def ordered : List (List Int) -> Bool
  | [] => true
  | [_] => true
  | p :: q :: r => decide (p ≠ q) && !leq q p && ordered (q :: r)
def chk (m : Int) : Bool :=
  (level m (m.toNat + 1)).isEmpty && (List.range (m.toNat + 1)).all (fun j => !(level m j).isEmpty && decide ((level m j).length <= 100) && decide ((upto m j).length <= 300)) && decide ((upto m (m.toNat + 1)).length = 2 ^ m.toNat) &&
  (upto m (m.toNat + 1)).all (okPick m) && ordered (upto m (m.toNat + 1)) && decide ((upto m (m.toNat + 1)).length <= 300)
theorem chk_all : ∀ m ∈ ([0, 1, 2, 3, 4, 5, 6, 7, 8] : List Int), chk m = true := by decide +kernel
end My
namespace My
theorem chk_of {m : Int} (h0 : 0 <= m) (h8 : m <= 8) : chk m = true := by
  refine chk_all m ?_
  have : m = 0 \/ m = 1 \/ m = 2 \/ m = 3 \/ m = 4 \/ m = 5 \/ m = 6 \/ m = 7 \/ m = 8 := by lia
  rcases this with rfl | rfl | rfl | rfl | rfl | rfl | rfl | rfl | rfl <;> decide
structure PicksOk (m : Int) : Prop where
  fin : level m (m.toNat + 1) = []
  ne : ∀ j, j <= m.toNat -> level m j ≠ []
  len : ∀ j, j <= m.toNat + 1 -> (level m j).length <= 100
  ulen : ∀ j, j <= m.toNat + 1 -> (upto m j).length <= 300
  many : (upto m (m.toNat + 1)).length = 2 ^ m.toNat
  ok : ∀ p ∈ upto m (m.toNat + 1), okPick m p = true
  ord : ordered (upto m (m.toNat + 1)) = true
theorem picks_ok {m : Int} (h0 : 0 <= m) (h8 : m <= 8) : PicksOk m := by
  have h := chk_of h0 h8
  unfold chk at h
  simp only [Bool.and_eq_true, List.all_eq_true, decide_eq_true_eq, Bool.not_eq_true', List.mem_range] at h
  obtain ⟨⟨⟨⟨⟨h1, h2⟩, h3⟩, h4⟩, h5⟩, h6⟩ := h
  have e1 : level m (m.toNat + 1) = [] := List.isEmpty_iff.mp h1
  refine ⟨e1, fun j hj e => ?_, fun j hj => ?_, fun j hj => ?_, h3, h4, h5⟩
  · have := (h2 j (by lia)).1.1
    rw [e] at this
    cases this
  · by_cases hj' : j = m.toNat + 1
    · rw [hj', e1]; exact Nat.zero_le _
    · exact (h2 j (by lia)).1.2
  · by_cases hj' : j = m.toNat + 1
    · rw [hj']; exact h6
    · exact (h2 j (by lia)).2
theorem upto_mem {m : Int} {p : List Int} : ∀ {n j : Nat}, j < n -> p ∈ level m j -> p ∈ upto m n
  | n + 1, j, h, hp => by
    show p ∈ upto m n ++ level m n
    by_cases e : j = n
    · subst e; exact List.mem_append_right _ hp
    · exact List.mem_append_left _ (upto_mem (by lia) hp)
theorem okPick_in {m : Int} {p : List Int} (h : okPick m p = true) : (∀ x ∈ p, 0 <= x /\ x < m) /\ rising p = true /\ p.length <= 8 := by
  unfold okPick at h
  simp only [Bool.and_eq_true, List.all_eq_true, decide_eq_true_eq] at h
  exact ⟨fun x hx => h.1.1 x hx, h.1.2, h.2⟩
theorem first_nn {m : Int} {p : List Int} (h : ∀ x ∈ p, 0 <= x /\ x < m) (h0 : 0 <= m) : 0 <= first p /\ first p <= m := by
  unfold first
  cases e : p.getLast? with
  | none => exact ⟨Int.le_refl _, h0⟩
  | some x =>
    have := h x (List.mem_of_getLast? e)
    simp only
    lia
end My
namespace My
open PySem L2
def TupAt (H : Hp) (v : V) (p : List Int) : Prop := ∃ a, v = .ref a /\ H a = some (.tup (p.map V.int))
theorem TupAt.same {H H' : Hp} {v : V} {p : List Int} (h : TupAt H v p) (e : Same H H') : TupAt H' v p := let ⟨a, h1, h2⟩ := h; ⟨a, h1, e _ _ h2⟩
theorem tups_same {H H' : Hp} {xs : List V} {ps : List (List Int)} (h : Paired (TupAt H) xs ps) (e : Same H H') : Paired (TupAt H') xs ps := L2.Paired.mapP h fun _ _ q => q.same e
theorem pair_app {α β : Type} {F : α -> β -> Prop} : ∀ {l₁ m₁ : List α} {l₂ m₂ : List β}, Paired F l₁ l₂ -> Paired F m₁ m₂ -> Paired F (l₁ ++ m₁) (l₂ ++ m₂)
  | _, _, _, _, .nil, h => h
  | _, _, _, _, .cons r t, h => .cons r (pair_app t h)
theorem tups_but {g : Addr} {H H' : Hp} {zs xs : List V} {ps : List (List Int)} (hg : H g = some (.lst zs)) (b : ∀ c o, c ≠ g -> H c = some o -> H' c = some o) (h : Paired (TupAt H) xs ps) : Paired (TupAt H') xs ps :=
  L2.Paired.mapP h fun _ _ ⟨a, e1, e2⟩ => ⟨a, e1, b _ _ (ne_of e2 hg (by intro z; cases z)) e2⟩
theorem Same.put' {H H2 : Hp} {p : Addr} {o : HO} (s : Same H H2) (h : H p = none) : Same H (upd H2 p o) := fun b u e => by rw [upd_ne (ne_of_none e h)]; exact s b u e
def spMore (K : W.Frag) : Sp := fun vs H Q _ => ∃ (l : Addr) (m : Int) (xs : List V) (ps : List (List Int)), vs = [.ref l, .int m] /\ H l = some (.lst xs) /\ Paired (TupAt H) xs ps /\ 0 <= m /\ m <= 8 /\ ps.length <= 100 /\ (∀ p ∈ ps, okPick m p = true) /\
  ∀ g ys H', Same H H' -> H g = none -> H' g = some (.lst ys) -> Paired (TupAt H') ys (ps.flatMap (more m)) -> Q (.ref g) H'
theorem more_len {m : Int} {p : List Int} (h : okPick m p = true) (h0 : 0 <= m) (h8 : m <= 8) : (more m p).length <= 8 := by
  have := first_nn (okPick_in h).1 h0
  unfold more
  rw [List.length_map, List.length_range]
  lia
theorem flat_len {m : Int} (h0 : 0 <= m) (h8 : m <= 8) : ∀ {ps : List (List Int)}, (∀ p ∈ ps, okPick m p = true) -> (ps.flatMap (more m)).length <= 8 * ps.length
  | [], _ => by simp
  | p :: ps, h => by
    rw [List.flatMap_cons, List.length_append, List.length_cons]
    have h1 := more_len (h p (List.mem_cons_self)) h0 h8
    have h2 := flat_len h0 h8 (ps := ps) fun q hq => h q (List.mem_cons_of_mem _ hq)
    lia
section
variable {P : Program} {w : World} {K : W.Frag} {mg : Str -> Option Value} {base : Heap}
theorem scMore : FnScope ["picks", "many", "greater", "pick", "first"] ["picks", "many"] (defScope sMore) := ⟨rfl, rfl, rfl, by decide +kernel, rfl, by decide +kernel, by decide +kernel⟩
theorem d_more (T : Txt K mg) (S : Src K mg "with_one_more" sMore ["picks", "many"]) : Def P w K mg base 1 "with_one_more" ["picks", "many"] (spMore K) := by
  refine S.def scMore (fun vs H Q E h => ?_) (fun f cdv A outer s H vs Q E hr h => ?_)
  · obtain ⟨l, m, xs, ps, rfl, _⟩ := h; rfl
  · obtain ⟨l, m, xs, ps, rfl, hl, hp, m0, m8, hlen, hok, q⟩ := h
    have xl : xs.length = ps.length := Paired.length hp
    refine ⟨_, pss_cons (ps_set (i := 2) scMore.nd rfl (Or.inl rfl) (pe_lst pa_nil))
      (pss_cons (ps_for PassesOwn.never rfl (pi_list (pv 0)) (pg_name (i := 3) scMore.nd rfl (Or.inr rfl))
        (pss_cons (ps_set (i := 4) scMore.nd rfl (Or.inl rfl) (pe_ifExp (pt_truth (pv 3) (fun _ => rfl)) (pe_op op_add (pe_ix (ix_tupK K) (pv 3) (pe_un un_neg pe_int) (fun _ _ => rfl)) pe_int) pe_int))
        (pss_one (ps_expr (pe_bm PySem.F.plainAttrs_list PySem.F.slot_list_extend PySem.F.type_list_extend mt_extend (pv 2) (pa_cons (pe_comp (N' := ["k", "pick"]) (fr := [none, some 3]) (compOk_of (by rfl)) rfl (pi_range2 rfl T.range (pa_cons (pv 4) (pa_cons (pv 1) pa_nil)))
          (fun _ _ _ _ => pg_name (i := 0) (show (["k", "pick"] : List Str).Nodup by decide +kernel) rfl (Or.inl rfl) (Or.inr rfl)) (fun _ _ _ _ => pifs_nil)
          (fun _ _ _ _ => pe_op (r := fun x y H Q => rCat0 K x y H Q \/ rCatT K x y H Q) (OpR.or op_cat0 op_catT) (pv 1) (pe_tup (pa_cons (pv 0) pa_nil)))) pa_nil))))))
      (pss_one (ps_ret (pv 2)))), ?_⟩
    refine ⟨Nat.zero_le _, fun g hg => ?_⟩
    have ngl : l ≠ g := ne_of_none hl hg
    have s0 := Same.new (o := HO.lst []) hg
    have g0 : (upd H g (.lst [])) g = some (.lst []) := upd_same
    generalize upd H g (.lst []) = H1 at s0 g0 ⊢
    refine ⟨_, rfl, l, rfl, ⟨_, SqL.of (s0 _ _ hl)⟩, for_list (K := K) (a := l) (xs := xs) (fun i σ H2 => (∃ u v, σ = [some (.ref l), some (.int m), some (.ref g), u, v]) /\ Same H H2 /\ ∃ ys, H2 g = some (.lst ys) /\ Paired (TupAt H2) ys ((ps.take i).flatMap (more m)))
      ⟨⟨_, _, rfl⟩, s0, [], g0, .nil⟩ (fun i σ H2 _ z => SqL.of (z.2.1 _ _ hl)) ?_ ?_⟩
    · rintro i x σ H2 hx ⟨⟨u, v, rfl⟩, s2, ys, hg2, hy⟩
      obtain ⟨p, e1, c, rfl, hc⟩ := Paired.at hp hx
      have pm : p ∈ ps := List.mem_of_getElem? e1
      have ok := okPick_in (hok p pm)
      have fn := first_nn ok.1 m0
      have hc2 := s2 _ _ hc
      have fin : ∀ (f : Int), f = first p -> tDrop (tBM K "list" rExtend (tVar 2) (tCons (tComp (iRng2 (tCons (tVar 4) (tCons (tVar 1) tNil))) [none, some 3] (gName 0) tYes
          (tOp (fun x y H Q => rCat0 K x y H Q \/ rCatT K x y H Q) (tVar 1) (tTup (tCons (tVar 0) tNil)))) tNil))
          { nx := fun σ H2 => (∃ u v, σ = [some (.ref l), some (.int m), some (.ref g), u, v]) /\ Same H H2 /\ ∃ ys, H2 g = some (.lst ys) /\ Paired (TupAt H2) ys ((ps.take (i + 1)).flatMap (more m)), rt := Q } [some (.ref l), some (.int m), some (.ref g), some (.ref c), some (.int f)] H2 := by
        rintro f rfl
        refine ⟨_, rfl, .inl ⟨rfl, _, SqL.of hg2⟩, _, rfl, _, rfl, _, _, rfl, ⟨by lia, by lia, by lia, by lia⟩, ?_⟩
        refine comp_range (S := fun σ => ∃ v, σ = [v, some (.ref c)]) (Pv := fun j zs H3 => Same H2 H3 /\ Paired (TupAt H3) zs ((List.range j).map fun (k : Nat) => p ++ [first p + (k : Int)])) ⟨_, rfl⟩ ⟨Same.refl _, .nil⟩ (Nat.lt_of_le_of_lt (show (m - first p).toNat <= 8 by lia) (by decide)) ?_ ?_
        · rintro j zs σ H3 N hj ⟨u', rfl⟩ ⟨s3, hz⟩ hN
          dsimp only [gName, List.set]
          refine yesT ?_
          have hc3 := s3 _ _ hc2
          refine ⟨_, rfl, _, rfl, by show 1 <= sizeLine; decide, fun d hd => ?_⟩
          have s4 := Same.new (o := HO.tup [.int (first p + (j : Int))]) hd
          have hd4 : (upd H3 d (.tup [.int (first p + (j : Int))])) d = some (.tup [.int (first p + (j : Int))]) := upd_same
          generalize upd H3 d (.tup [.int (first p + (j : Int))]) = H4 at s4 hd4 ⊢
          have go : ∀ (v : V) (H5 : Hp), Same H4 H5 -> TupAt H5 v (p ++ [first p + (j : Int)]) -> N (zs ++ [v]) [some (.int (first p + (j : Int))), some (.ref c)] H5 := fun v H5 s5 hv => by
            refine hN _ _ _ ⟨_, rfl⟩ ⟨s3.trans (s4.trans s5), ?_⟩ (by simp)
            rw [List.range_succ, List.map_append]
            exact L2.Paired.snoc (tups_same hz (s4.trans s5)) hv
          cases p with
          | nil =>
            exact .inl ⟨c, d, _, rfl, rfl, SqT.of (s4 _ _ hc3), SqT.of hd4, go _ _ (Same.refl _) ⟨d, rfl, hd4⟩⟩
          | cons p0 pr =>
            refine .inr ⟨c, d, _, _, rfl, rfl, SqT.of (s4 _ _ hc3), SqT.of hd4, by simp, ?_, (fun z => nomatch z), fun _ r hr4 => ?_⟩
            · have := ok.2.2
              rw [List.length_map]
              exact Nat.le_trans (Nat.add_le_add_right this _) (by show 8 + 1 <= sizeLine; decide)
            · refine go _ _ (Same.new hr4) ⟨r, rfl, ?_⟩
              rw [List.map_append]
              exact upd_same
        · rintro zs H3 ⟨s3, hz⟩ r hr3
          have e2 : (List.range (m - first p).toNat).map (fun (k : Nat) => p ++ [first p + (k : Int)]) = more m p := rfl
          rw [e2] at hz
          have s4 := Same.new (o := HO.lst zs) hr3
          have hr4 : (upd H3 r (.lst zs)) r = some (.lst zs) := upd_same
          generalize upd H3 r (.lst zs) = H4 at s4 hr4 ⊢
          have hg4 := s4 _ _ (s3 _ _ hg2)
          have y4 := tups_same hy (s3.trans s4)
          have z4 := tups_same hz s4
          have yl : ys.length = ((ps.take i).flatMap (more m)).length := Paired.length hy
          have zl : zs.length = (more m p).length := Paired.length hz
          have l1 := flat_len m0 m8 (ps := ps.take i) fun q hq => hok q (List.mem_of_mem_take hq)
          have l2 := more_len (hok p pm) m0 m8
          have l3 : (ps.take i).length <= 100 := Nat.le_trans (by rw [List.length_take]; exact Nat.min_le_right _ _) hlen
          refine ⟨g, r, ys, zs, rfl, rfl, hg4, hr4, Nat.le_trans (show ys.length + zs.length <= 1000 by lia) (by decide), ?_⟩
          refine ⟨⟨_, _, rfl⟩, Same.put' (s2.trans (s3.trans s4)) hg, ys ++ zs, upd_same, ?_⟩
          have b : ∀ (cc : Addr) (o : HO), cc ≠ g -> H4 cc = some o -> (upd H4 g (.lst (ys ++ zs))) cc = some o := fun cc o h1 h2 => by rw [upd_ne h1]; exact h2
          rw [take_succ_of e1, List.flatMap_append]
          refine pair_app (tups_but hg4 b y4) ?_
          rw [List.flatMap_cons, List.flatMap_nil, List.append_nil]
          exact tups_but hg4 b z4
      refine ⟨_, rfl, _, .inr (.inl ⟨_, SqT.of hc2, rfl⟩), ?_⟩
      cases p with
      | nil => exact iteF (fin 0 rfl)
      | cons p0 pr =>
        refine iteT ?_
        obtain ⟨ini, z, ez⟩ : ∃ ini z, p0 :: pr = ini ++ [z] := ⟨(p0 :: pr).dropLast, (p0 :: pr).getLast (by simp), (List.dropLast_concat_getLast (by simp)).symm⟩
        have ea : atI ((p0 :: pr).map V.int) (-1) = some (V.int z) := by rw [ez, List.map_append]; exact atI_last _ _
        refine ⟨_, rfl, _, rfl, c, _, _, _, rfl, rfl, SqT.of hc2, ea, _, _, rfl, rfl, ?_⟩
        refine fin (z + 1) ?_
        rw [ez]
        unfold first
        rw [List.getLast?_append]
        rfl
    · rintro σ H2 ⟨⟨u, v, rfl⟩, s2, ys, hg2, hy⟩
      rw [show ps.take xs.length = ps by rw [xl]; exact List.take_length] at hy
      exact ⟨_, rfl, q g ys H2 s2 hg hg2 hy⟩
end
def spAll (K : W.Frag) : Sp := fun vs H Q _ => ∃ (wv : V) (n : Int) (ps : List (Int × Int)), vs = [wv] /\ WebAt H wv n ps /\ ps.length <= 8 /\
  ∀ g ys H', Same H H' -> H g = none -> H' g = some (.lst ys) -> Paired (TupAt H') ys (upto (ps.length : Int) (ps.length + 1)) -> Q (.ref g) H'
section
variable {P : Program} {w : World} {K : W.Frag} {mg : Str -> Option Value} {base : Heap}
theorem scAll : FnScope ["web", "many", "picks", "of_one_size"] ["web"] (defScope sAll) := ⟨rfl, rfl, rfl, by decide +kernel, rfl, by decide +kernel, by decide +kernel⟩
theorem d_all (T : Txt K mg) (S : Src K mg "all_picks" sAll ["web"]) (DM : Def P w K mg base 1 "with_one_more" ["picks", "many"] (spMore K)) : Def P w K mg base 2 "all_picks" ["web"] (spAll K) := by
  refine S.def scAll (fun vs H Q E h => ?_) (fun f cdv A outer s H vs Q E hr h => ?_)
  · obtain ⟨wv, n, ps, rfl, _⟩ := h; rfl
  · obtain ⟨wv, n, ps, rfl, W, hlen, q⟩ := h
    obtain ⟨c, d, xs, rfl, hc, hd, ht⟩ := W.ex
    have xl : xs.length = ps.length := Paired.length ht
    refine ⟨_, pss_cons (ps_set (i := 1) scAll.nd rfl (Or.inl rfl) (pe_callB (call_lenK K) (by rfl) T.len PySem.boot_len (pa_cons (pe_ix (ix_tupK K) (pv 0) pe_int (fun _ _ => rfl)) pa_nil)))
      (pss_cons (ps_set (i := 2) scAll.nd rfl (Or.inl rfl) (pe_lst pa_nil))
      (pss_cons (ps_set (i := 3) scAll.nd rfl (Or.inl rfl) (pe_lst (pa_cons (pe_tup pa_nil) pa_nil)))
      (pss_cons (ps_while PassesOwn.never (pt_truth (pv 3) (fun _ => rfl))
        (pss_cons (ps_expr (pe_bm PySem.F.plainAttrs_list PySem.F.slot_list_extend PySem.F.type_list_extend mt_extend (pv 2) (pa_cons (pv 3) pa_nil)))
        (pss_one (ps_set (i := 3) scAll.nd rfl (Or.inl rfl) (pe_def DM hr rfl (pa_cons (pv 3) (pa_cons (pv 1) pa_nil)))))))
      (pss_one (ps_ret (pv 2)))))), ?_⟩
    have i1 : atI ([.int n, .ref d] : List V) 1 = some (.ref d) := atI_nat (j := 1) rfl
    refine ⟨_, rfl, c, _, _, _, rfl, rfl, SqT.of hc, i1, d, xs, rfl, .inr (SqT.of hd), ?_⟩
    rw [xl]
    have m0 : (0 : Int) <= (ps.length : Int) := by lia
    have m8 : (ps.length : Int) <= 8 := by lia
    have PO := picks_ok m0 m8
    have tn : ((ps.length : Int)).toNat = ps.length := by lia
    rw [<- show ((ps.length : Int)).toNat + 1 = ps.length + 1 by lia] at q
    generalize (ps.length : Int) = m at m0 m8 PO tn q ⊢
    refine ⟨Nat.zero_le _, fun g hg => ?_⟩
    have s1 := Same.new (o := HO.lst []) hg
    have g1 : (upd H g (.lst [])) g = some (.lst []) := upd_same
    generalize upd H g (.lst []) = H1 at s1 g1 ⊢
    refine ⟨Nat.zero_le _, fun e he => ⟨by show 1 <= sizeLine; decide, fun l hl => ?_⟩⟩
    have s2 := Same.new (o := HO.tup []) he
    have s3 := Same.new (o := HO.lst [.ref e]) hl
    have he2 : (upd (upd H1 e (.tup [])) l (.lst [.ref e])) e = some (.tup []) := s3 _ _ upd_same
    have hl2 : (upd (upd H1 e (.tup [])) l (.lst [.ref e])) l = some (.lst [.ref e]) := upd_same
    have s13 := s2.trans s3
    have ngl : g ≠ l := ne_of_none (s2 _ _ g1) hl
    generalize upd (upd H1 e (.tup [])) l (.lst [.ref e]) = H3 at he2 hl2 s13 ⊢
    refine ⟨fun k σ H4 => ∃ (j : Nat) (l : Addr) (zs ys : List V), k = m.toNat + 1 - j /\ j <= m.toNat + 1 /\ σ = [some (.ref c), some (.int m), some (.ref g), some (.ref l)] /\ Same H H4 /\ H4 g = some (.lst ys) /\ Paired (TupAt H4) ys (upto m j) /\ H4 l = some (.lst zs) /\ Paired (TupAt H4) zs (level m j) /\ g ≠ l,
      ⟨_, 0, l, _, [], rfl, Nat.zero_le _, rfl, s1.trans s13, s13 _ _ g1, .nil, hl2, .cons ⟨e, rfl, he2⟩ .nil, ngl⟩, ?_⟩
    rintro k σ H4 ⟨j, l, zs, ys, rfl, hj, rfl, s4, hg4, hy, hl4, hz, ngl⟩
    refine ⟨_, rfl, _, .inl ⟨zs, SqL.of hl4, rfl⟩, ?_⟩
    by_cases hjm : j = m.toNat + 1
    · rw [hjm, PO.fin] at hz
      have ez : zs = [] := by cases hz; rfl
      subst ez
      refine iteF ⟨_, rfl, ?_⟩
      rw [hjm] at hy
      exact q g ys H4 s4 hg hg4 hy
    · have hj' : j <= m.toNat := by lia
      have nz : zs ≠ [] := fun e => PO.ne j hj' (by rw [e] at hz; cases hh : level m j with | nil => rfl | cons a b => rw [hh] at hz; cases hz)
      have ez : (!zs.isEmpty) = true := by cases zs with | nil => exact absurd rfl nz | cons a b => rfl
      rw [ez]
      refine iteT ⟨fun σ' H' => ∃ (j' : Nat) (l : Addr) (zs ys : List V), j' = j + 1 /\ σ' = [some (.ref c), some (.int m), some (.ref g), some (.ref l)] /\ Same H H' /\ H' g = some (.lst ys) /\ Paired (TupAt H') ys (upto m j') /\ H' l = some (.lst zs) /\ Paired (TupAt H') zs (level m j') /\ g ≠ l,
        fun σ' H' h => (by
          obtain ⟨j', l, zs, ys, e, r⟩ := h
          subst e
          exact ⟨_, Nat.sub_lt_sub_left (Nat.lt_succ_of_le hj') (Nat.lt_succ_self j), j + 1, l, zs, ys, rfl, Nat.succ_le_succ hj', r⟩), ?_⟩
      have yl : ys.length = (upto m j).length := Paired.length hy
      have zl : zs.length = (level m j).length := Paired.length hz
      have b1 := PO.ulen j hj
      have b2 := PO.len j hj
      refine ⟨_, rfl, .inl ⟨rfl, _, SqL.of hg4⟩, _, rfl, g, l, ys, zs, rfl, rfl, hg4, hl4, Nat.le_trans (show ys.length + zs.length <= 1000 by lia) (by decide), ?_⟩
      have bt : ∀ (cc : Addr) (o : HO), cc ≠ g -> H4 cc = some o -> (upd H4 g (.lst (ys ++ zs))) cc = some o := fun cc o h1 h2 => by rw [upd_ne h1]; exact h2
      have s5 : Same H (upd H4 g (.lst (ys ++ zs))) := Same.put' s4 hg
      have hg5 : (upd H4 g (.lst (ys ++ zs))) g = some (.lst (ys ++ zs)) := upd_same
      have hl5 := bt l _ ngl.symm hl4
      have y5 := pair_app (tups_but hg4 bt hy) (tups_but hg4 bt hz)
      have z5 := tups_but hg4 bt hz
      generalize upd H4 g (.lst (ys ++ zs)) = H5 at s5 hg5 hl5 y5 z5 ⊢
      refine ⟨_, rfl, _, rfl, l, m, zs, level m j, rfl, hl5, z5, m0, m8, b2, fun p hp => PO.ok p (upto_mem (show j < m.toNat + 1 by lia) hp), fun g2 ws H6 s6 f2 hg6 hw => ?_⟩
      exact ⟨j + 1, g2, ws, ys ++ zs, rfl, rfl, s5.trans s6, s6 _ _ hg5, tups_same y5 s6, hg6, hw, ne_of_none hg5 f2⟩
end
def rkP (n : Int) (ps : List (Int × Int)) (ks : List Int) : Int := n - (dcount (hdF ps (ups n) ks) : Int)
def allP (ps : List (Int × Int)) : List (List Int) := upto (ps.length : Int) (ps.length + 1)
def withP (n : Int) (ps : List (Int × Int)) (s r : Int) : List (List Int) := ((allP ps).filter fun p => decide ((p.length : Int) = s)).filter fun p => decide (rkP n ps p = r)
def rkAll (n : Int) (ps : List (Int × Int)) : Int := rkP n ps (ups ps.length)
def treesP (n : Int) (ps : List (Int × Int)) : List (List Int) := withP n ps (rkAll n ps) (rkAll n ps)
def WebOk (n : Int) (ps : List (Int × Int)) : Prop := (1 <= n /\ n <= 9) /\ (∀ p ∈ ps, InN n p) /\ ps.length <= 8
def spPW (K : W.Frag) : Sp := fun vs H Q _ => ∃ (wv : V) (n s r : Int) (ps : List (Int × Int)), vs = [wv, .int s, .int r] /\ WebAt H wv n ps /\ WebOk n ps /\
  ∀ g ys H', Same H H' -> H g = none -> H' g = some (.lst ys) -> Paired (TupAt H') ys (withP n ps s r) -> Q (.ref g) H'
def spAT (K : W.Frag) : Sp := fun vs H Q _ => ∃ (wv : V) (n : Int) (ps : List (Int × Int)), vs = [wv] /\ WebAt H wv n ps /\ WebOk n ps /\
  ∀ g ys H', Same H H' -> H g = none -> H' g = some (.lst ys) -> Paired (TupAt H') ys (treesP n ps) -> Q (.ref g) H'
def isTr (n : Int) (ps : List (Int × Int)) (ks : List Int) : Bool := decide ((ks.length : Int) = rkAll n ps) && decide (rkP n ps ks = rkAll n ps)
theorem allP_ok {ps : List (Int × Int)} (h8 : ps.length <= 8) : PicksOk (ps.length : Int) := picks_ok (by lia) (by lia)
theorem allP_len {ps : List (Int × Int)} (h8 : ps.length <= 8) : (allP ps).length <= 300 := by
  have := (allP_ok h8).ulen (ps.length + 1) (by lia)
  exact this
theorem allP_in {ps : List (Int × Int)} (h8 : ps.length <= 8) {p : List Int} (hp : p ∈ allP ps) : okPick (ps.length : Int) p = true := by
  refine (allP_ok h8).ok p ?_
  rw [show ((ps.length : Int)).toNat = ps.length by lia]
  exact hp
theorem allP_ks {ps : List (Int × Int)} (h8 : ps.length <= 8) {p : List Int} (hp : p ∈ allP ps) : Ks ps.length p := fun k hk => (okPick_in (allP_in h8 hp)).1 k hk
theorem line300 {n : Nat} (h : n <= 300) : n < sizeLine := Nat.lt_of_le_of_lt h (by decide)
theorem filt_take {α : Type} {l : List α} {i : Nat} {x : α} (f : α -> Bool) (e : l[i]? = some x) : (l.take (i + 1)).filter f = (l.take i).filter f ++ (if f x then [x] else []) := by
  rw [take_succ_of e, List.filter_append]
  congr 1
  cases h : f x <;> simp [h]
theorem dec_int (a b : Int) : decide (V.int a = V.int b) = decide (a = b) := by
  rw [decide_eq_decide]
  exact ⟨fun z => by injection z, fun z => by rw [z]⟩
def rLenSq (K : W.Frag) : List V -> Hp -> VK -> Prop := fun xs H Q => ∃ p ys, xs = [.ref p] /\ (SqL K H p ys \/ SqT K H p ys) /\ Q (.int ys.length) H
section
variable {P : Program} {w : World} {K : W.Frag} {mg : Str -> Option Value} {base : Heap}
theorem scPW : FnScope ["web", "size", "rank", "of_this_size"] ["web", "size", "rank"] (defScope sPW) := ⟨rfl, rfl, rfl, by decide +kernel, rfl, by decide +kernel, by decide +kernel⟩
theorem ndPW1 : (["pick", "size"] : List Str).Nodup := by decide +kernel
theorem ndPW2 : (["pick", "rank", "web"] : List Str).Nodup := by decide +kernel
theorem d_pw (T : Txt K mg) (S : Src K mg "picks_with" sPW ["web", "size", "rank"]) (DA : Def P w K mg base 2 "all_picks" ["web"] (spAll K)) (DR : Def P w K mg base 2 "rank_of" ["web", "pick"] (spRank K)) : Def P w K mg base 3 "picks_with" ["web", "size", "rank"] (spPW K) := by
  refine S.def scPW (fun vs H Q E h => ?_) (fun f cdv A outer s H vs Q E hr h => ?_)
  · obtain ⟨_, _, _, _, _, rfl, _⟩ := h; rfl
  · obtain ⟨wv, n, sz, rn, ps, rfl, W, ⟨⟨n1, n9⟩, hb, h8⟩, q⟩ := h
    have hr2 : Room 2 _ := hr.mono (by decide)
    refine ⟨_, pss_cons (ps_setComp (i := 3) scPW.nd rfl (Or.inl rfl) (N' := ["pick", "size"]) (fr := [none, some 1]) (compOk_of (by rfl)) rfl (pi_seqK K .l (pe_def DA hr2 rfl (pa_cons (pv 0) pa_nil)))
        (fun _ _ _ _ => pg_name (i := 0) ndPW1 rfl (Or.inl rfl) (Or.inr rfl)) (fun _ _ _ _ => pifs_one (pt_cmpR op_eq (pe_callB (r := rLenSq K) (call_lenK K) (by rfl) T.len PySem.boot_len (pa_cons (pv 0) pa_nil)) (pv 1) (nomark _))) (fun _ _ _ _ => pv 0))
      (pss_one (ps_ret (pe_comp (N' := ["pick", "rank", "web"]) (fr := [none, some 2, some 0]) (compOk_of (by rfl)) rfl (pi_seqK K .l (pv 3))
        (fun _ _ _ _ => pg_name (i := 0) ndPW2 rfl (Or.inl rfl) (Or.inr rfl)) (fun _ _ _ _ => pifs_one (pt_cmpR op_eq (pe_def DR hr2 rfl (pa_cons (pv 2) (pa_cons (pv 0) pa_nil))) (pv 1) (nomark _))) (fun _ _ _ _ => pv 0)))), ?_⟩
    refine ⟨_, rfl, wv, n, ps, rfl, W, h8, fun g ys H1 s1 hgN hg hy => ?_⟩
    have hy : Paired (TupAt H1) ys (allP ps) := hy
    have al : ys.length = (allP ps).length := Paired.length hy
    have al3 := allP_len h8
    refine ⟨g, rfl, ⟨_, SqL.of hg⟩, comp_seq (k := .l) (a := g) (xs := ys) (fun σ => ∃ v, σ = [v, some (.int sz)]) (fun j zs H2 => H2 = H1 /\ Paired (TupAt H1) zs (((allP ps).take j).filter fun p => decide ((p.length : Int) = sz))) ⟨_, rfl⟩ ⟨rfl, .nil⟩ (line300 (by lia)) (fun j zs H2 _ z => SqL.of (by rw [z.1]; exact hg)) ?_ ?_⟩
    · rintro j x zs σ H2 N hx ⟨u, rfl⟩ ⟨rfl, hz⟩ hN
      obtain ⟨p, ep, c, rfl, hc⟩ := Paired.at hy hx
      dsimp only [gName, List.set]
      refine ⟨_, rfl, c, _, rfl, .inr (SqT.of hc), _, rfl, rfl, _, rfl, ?_⟩
      rw [List.length_map, dec_int]
      have ef := filt_take (fun p => decide ((p.length : Int) = sz)) ep
      refine ite2 (fun z => ⟨_, rfl, ?_⟩) (fun z => ?_)
      · refine hN _ _ _ ⟨_, rfl⟩ ⟨rfl, ?_⟩ (by simp)
        rw [ef, if_pos z]
        exact L2.Paired.snoc hz ⟨c, rfl, hc⟩
      · refine hN _ _ _ ⟨_, rfl⟩ ⟨rfl, ?_⟩ (by lia)
        rw [ef, if_neg z, List.append_nil]
        exact hz
    · rintro zs H2 ⟨rfl, hz⟩ l hl
      rw [al, List.take_length] at hz
      have s2 := Same.new (o := HO.lst zs) hl
      have hl2 : (upd H2 l (.lst zs)) l = some (.lst zs) := upd_same
      have hz2 := tups_same hz s2
      have s12 := s1.trans s2
      generalize upd H2 l (.lst zs) = H3 at s2 hl2 hz2 s12 ⊢
      generalize hL : ((allP ps).filter fun p => decide ((p.length : Int) = sz)) = L at hz2
      have inL : ∀ p ∈ L, p ∈ allP ps := fun p hp => by rw [<- hL] at hp; exact (List.mem_filter.mp hp).1
      have zl : zs.length = L.length := Paired.length hz2
      have ll : L.length <= (allP ps).length := by rw [<- hL]; exact List.length_filter_le _ _
      refine ⟨_, rfl, l, rfl, ⟨_, SqL.of hl2⟩, comp_seq (k := .l) (a := l) (xs := zs) (fun σ => ∃ v, σ = [v, some (.int rn), some wv]) (fun j us H2 => Same H3 H2 /\ Paired (TupAt H2) us ((L.take j).filter fun p => decide (rkP n ps p = rn))) ⟨_, rfl⟩ ⟨Same.refl _, .nil⟩ (line300 (by lia)) (fun j us H2 _ z => SqL.of (z.1 _ _ hl2)) ?_ ?_⟩
      · rintro j x us σ H4 N hx ⟨u, rfl⟩ ⟨s4, hu⟩ hN
        obtain ⟨p, ep, c, rfl, hc⟩ := Paired.at hz2 hx
        have pin := inL p (List.mem_of_getElem? ep)
        dsimp only [gName, List.set]
        refine ⟨_, rfl, _, rfl, wv, c, n, ps, p, rfl, W.same (s12.trans s4), n1, n9, hb, SqT.of (s4 _ _ hc), allP_ks h8 pin, fun H5 s5 => ⟨_, rfl, rfl, _, rfl, ?_⟩⟩
        rw [dec_int]
        have ef := filt_take (fun p => decide (rkP n ps p = rn)) ep
        refine ite2 (fun z => ⟨_, rfl, ?_⟩) (fun z => ?_)
        · refine hN _ _ _ ⟨_, rfl⟩ ⟨s4.trans s5, ?_⟩ (by simp)
          rw [ef, if_pos (show decide (rkP n ps p = rn) = true from z)]
          exact L2.Paired.snoc (tups_same hu s5) ⟨c, rfl, s5 _ _ (s4 _ _ hc)⟩
        · refine hN _ _ _ ⟨_, rfl⟩ ⟨s4.trans s5, ?_⟩ (by lia)
          rw [ef, if_neg (show ¬ decide (rkP n ps p = rn) = true from z), List.append_nil]
          exact tups_same hu s5
      · rintro us H4 ⟨s4, hu⟩ r hr4
        rw [zl, List.take_length] at hu
        have s5 := Same.new (o := HO.lst us) hr4
        refine q r us _ ((s12.trans s4).trans s5) ?_ upd_same ?_
        · cases e : H r with
          | none => rfl
          | some o => exact absurd ((s12.trans s4) _ _ e) (by rw [hr4]; intro z; cases z)
        · have hw : withP n ps sz rn = L.filter fun p => decide (rkP n ps p = rn) := by unfold withP; rw [hL]
          rw [hw]
          exact tups_same hu s5
theorem scAT : FnScope ["web"] ["web"] (defScope sAT) := ⟨rfl, rfl, rfl, by decide +kernel, rfl, by decide +kernel, by decide +kernel⟩
theorem d_at_ (S : Src K mg "all_trees" sAT ["web"]) (DW : Def P w K mg base 3 "rank_of_web" ["web"] (spRankW K)) (DP : Def P w K mg base 3 "picks_with" ["web", "size", "rank"] (spPW K)) : Def P w K mg base 4 "all_trees" ["web"] (spAT K) := by
  refine S.def scAT (fun vs H Q E h => ?_) (fun f cdv A outer s H vs Q E hr h => ?_)
  · obtain ⟨_, _, _, rfl, _⟩ := h; rfl
  · obtain ⟨wv, n, ps, rfl, W, ok, q⟩ := h
    obtain ⟨⟨n1, n9⟩, hb, h8⟩ := ok
    have hr3 : Room 3 _ := hr.mono (by decide)
    refine ⟨_, pss_one (ps_ret (pe_def DP hr3 rfl (pa_cons (pv 0) (pa_cons (pe_def DW hr3 rfl (pa_cons (pv 0) pa_nil)) (pa_cons (pe_def DW hr3 rfl (pa_cons (pv 0) pa_nil)) pa_nil))))), ?_⟩
    refine ⟨_, rfl, _, rfl, wv, n, ps, rfl, W, n1, n9, hb, h8, fun H1 s1 => ⟨_, rfl, wv, n, ps, rfl, W.same s1, n1, n9, hb, h8, fun H2 s2 => ?_⟩⟩
    have s12 := s1.trans s2
    refine ⟨wv, n, _, _, ps, rfl, W.same s12, ⟨⟨n1, n9⟩, hb, h8⟩, fun g ys H3 s3 hgN hg hy => q g ys H3 (s12.trans s3) ?_ hg hy⟩
    cases e : H g with
    | none => rfl
    | some o => exact absurd (s12 _ _ e) (by rw [hgN]; intro z; cases z)
end
end My
namespace My
open PySem L2 PyProof.Rows
theorem at_mem {l : List Int} {i : Int} (h0 : 0 <= i) (h : i < l.length) : at0 l i ∈ l := getD_mem (by lia)
theorem at_map {l : List Int} {f : Int -> Int} {i : Int} (h0 : 0 <= i) (h : i < l.length) : at0 (l.map f) i = f (at0 l i) := getD_map (by lia)
theorem at_ups {n i : Int} (h0 : 0 <= i) (h : i < n) : at0 (ups n) i = i := by
  have : i.toNat < n.toNat := by lia
  unfold at0 ups
  simp [List.getD, this]
  lia
theorem mem_ups {n i : Int} : i ∈ ups n ↔ 0 <= i /\ i < n := by
  unfold ups
  rw [List.mem_map]
  constructor
  · rintro ⟨j, hj, rfl⟩
    have := List.mem_range.mp hj
    lia
  · rintro ⟨a, b⟩
    exact ⟨i.toNat, List.mem_range.mpr (by lia), by lia⟩
theorem ups_up (n : Int) : (ups n).Pairwise (· < ·) := by
  unfold ups
  rw [List.pairwise_map]
  exact List.pairwise_lt_range.imp fun h => by lia
theorem ups_snoc {j : Int} (h : 0 <= j) : ups (j + 1) = ups j ++ [j] := by
  unfold ups
  rw [show (j + 1).toNat = j.toNat + 1 by lia, List.range_succ, List.map_append]
  simp
  exact Int.max_eq_left h
structure GH (n : Int) (ps : List (Int × Int)) (ks hs : List Int) : Prop where
  len : (hs.length : Int) = n
  le : ∀ i, 0 <= i -> i < n -> 0 <= at0 hs i /\ at0 hs i <= i
  idem : ∀ i, 0 <= i -> i < n -> at0 hs (at0 hs i) = at0 hs i
  join : ∀ k ∈ ks, at0 hs (tieN ps k).1 = at0 hs (tieN ps k).2
  cl : ∀ F : Int -> Prop, (∀ k ∈ ks, (F (tieN ps k).1 ↔ F (tieN ps k).2)) -> ∀ i, 0 <= i -> i < n -> (F i ↔ F (at0 hs i))
theorem gh_start {n : Int} (h1 : 1 <= n) (ps : List (Int × Int)) : GH n ps [] (ups n) where
  len := by rw [ups_len]; lia
  le i a b := by rw [at_ups a b]; lia
  idem i a b := by rw [at_ups a b, at_ups a b]
  join k hk := nomatch hk
  cl F _ i a b := by rw [at_ups a b]
theorem gh_step {n : Int} {ps : List (Int × Int)} {ks hs : List Int} {k : Int} (G : GH n ps ks hs) (hall : ∀ k ∈ ks, InN n (tieN ps k)) (hp : InN n (tieN ps k)) : GH n ps (ks ++ [k]) (stepH hs (tieN ps k)) := by
  generalize hp' : tieN ps k = p at hp ⊢
  obtain ⟨a1, a2, b1, b2⟩ := id hp
  have ln := G.len
  by_cases he : at0 hs p.1 = at0 hs p.2
  · rw [stepH_same he]
    refine ⟨G.len, G.le, G.idem, fun j hj => ?_, fun F hF i h0 hi => G.cl F (fun j hj => hF j (List.mem_append_left _ hj)) i h0 hi⟩
    rcases List.mem_append.mp hj with z | z
    · exact G.join j z
    · rw [List.mem_singleton.mp z, hp']; exact he
  · obtain ⟨low, high, lh, es, fl, fh, lp, lle, dom⟩ : ∃ low high, low < high /\ stepH hs p = hs.map (fun x => if x = high then low else x) /\ at0 hs low = low /\ at0 hs high = high /\ 0 <= low /\ high < n /\ ((at0 hs p.1 = low /\ at0 hs p.2 = high) \/ (at0 hs p.1 = high /\ at0 hs p.2 = low)) := by
      have la := G.le p.1 a1 a2
      have lb := G.le p.2 b1 b2
      have ia := G.idem p.1 a1 a2
      have ib := G.idem p.2 b1 b2
      by_cases hlt : at0 hs p.2 < at0 hs p.1
      · refine ⟨at0 hs p.2, at0 hs p.1, hlt, ?_, ib, ia, lb.1, by lia, .inr ⟨rfl, rfl⟩⟩
        unfold stepH
        rw [if_neg (by lia), if_pos hlt]
      · refine ⟨at0 hs p.1, at0 hs p.2, by lia, ?_, ia, ib, la.1, by lia, .inl ⟨rfl, rfl⟩⟩
        unfold stepH
        rw [if_pos (by lia), if_neg hlt]
    rw [es]
    have am : ∀ i, 0 <= i -> i < n -> at0 (hs.map fun x => if x = high then low else x) i = if at0 hs i = high then low else at0 hs i := fun i h0 hi => at_map h0 (by lia)
    refine ⟨by rw [List.length_map]; exact ln, fun i h0 hi => ?_, fun i h0 hi => ?_, fun j hj => ?_, fun F hF i h0 hi => ?_⟩
    · rw [am i h0 hi]
      have := G.le i h0 hi
      split <;> lia
    · rw [am i h0 hi]
      have l1 := G.le i h0 hi
      by_cases c : at0 hs i = high
      · rw [if_pos c, am low lp (by lia), fl, if_neg (by lia)]
      · rw [if_neg c, am (at0 hs i) l1.1 (by lia), G.idem i h0 hi, if_neg c]
    · have inj : InN n (tieN ps j) := by
        rcases List.mem_append.mp hj with z | z
        · exact hall j z
        · rw [List.mem_singleton.mp z, hp']; exact hp
      obtain ⟨c1, c2, c3, c4⟩ := inj
      rw [am _ c1 c2, am _ c3 c4]
      rcases List.mem_append.mp hj with z | z
      · rw [G.join j z]
      · rw [List.mem_singleton.mp z, hp']
        rcases dom with ⟨d1, d2⟩ | ⟨d1, d2⟩ <;> rw [d1, d2] <;> simp
    · have old := G.cl F (fun j hj => hF j (List.mem_append_left _ hj))
      have fp : F p.1 ↔ F p.2 := by have := hF k (by simp); rw [hp'] at this; exact this
      rw [am i h0 hi, old i h0 hi]
      by_cases c : at0 hs i = high
      · rw [if_pos c, c]
        have o1 := old p.1 a1 a2
        have o2 := old p.2 b1 b2
        rcases dom with ⟨d1, d2⟩ | ⟨d1, d2⟩
        · rw [d1] at o1; rw [d2] at o2
          exact o2.symm.trans (fp.symm.trans o1)
        · rw [d1] at o1; rw [d2] at o2
          exact o1.symm.trans (fp.trans o2)
      · rw [if_neg c]
theorem gh_go {n : Int} {ps : List (Int × Int)} : ∀ (ks done hs : List Int), (∀ k ∈ done ++ ks, InN n (tieN ps k)) -> GH n ps done hs -> GH n ps (done ++ ks) (hdF ps hs ks)
  | [], done, hs, _, G => by rw [List.append_nil]; exact G
  | k :: ks, done, hs, h, G => by
    have := gh_go ks (done ++ [k]) (stepH hs (tieN ps k)) (by rw [List.append_assoc]; exact h) (gh_step G (fun j hj => h j (List.mem_append_left _ hj)) (h k (by simp)))
    rw [List.append_assoc] at this
    exact this
theorem gh_run {n : Int} {ps : List (Int × Int)} {ks : List Int} (h1 : 1 <= n) (hb : ∀ p ∈ ps, InN n p) (hk : Ks ps.length ks) : GH n ps ks (hdF ps (ups n) ks) :=
  gh_go ks [] (ups n) (fun k h => tieN_in hb (hk k h).1 (hk k h).2) (gh_start h1 ps)
def under (n : Int) (hs : List Int) (h : Int) : List Int := (ups n).filter fun i => decide (at0 hs i = h)
def hpts (n : Int) (hs : List Int) : List Int := (ups n).filter fun i => decide (at0 hs i = i)
def parts (n : Int) (hs : List Int) : List (List Int) := (hpts n hs).map (under n hs)
theorem perm_up {l m : List Int} (p : l.Perm m) (h1 : l.Pairwise (· <= ·)) (h2 : m.Pairwise (· <= ·)) : l = m := List.Perm.eq_of_pairwise (fun a b _ _ h1 h2 => by lia) h1 h2 p
theorem same_perm {l m : List Int} (h1 : l.Nodup) (h2 : m.Nodup) (h : ∀ i, i ∈ l ↔ i ∈ m) : l.Perm m := (List.perm_ext_iff_of_nodup h1 h2).mpr h
theorem nd_len {n : Int} {l : List Int} (h0 : 0 <= n) (nd : l.Nodup) (h : ∀ i ∈ l, 0 <= i /\ i < n) : (l.length : Int) <= n := by
  have p : l.Perm ((ups n).filter fun i => decide (i ∈ l)) := same_perm nd (((ups_up n).filter _).imp fun h => by lia) fun i => by
    rw [List.mem_filter, mem_ups, decide_eq_true_iff]
    exact ⟨fun z => ⟨h i z, z⟩, fun z => z.2⟩
  have := p.length_eq
  have := List.length_filter_le (fun i => decide (i ∈ l)) (ups n)
  rw [ups_len] at this
  lia
end My
namespace My
open PySem L2 PyProof.Rows
def cN (n : Int) (ps : List (Int × Int)) (ks : List Int) : Int := (dcount (hdF ps (ups n) ks) : Nat)
theorem stepH_norm (hs : List Int) (p : Int × Int) : stepH hs (norm p) = stepH hs p := by
  rcases norm_cases p with ⟨e1, e2⟩ | ⟨e1, e2⟩
  · unfold stepH; rw [e1, e2]
  · unfold stepH
    rw [e1, e2]
    have h1 : (if at0 hs p.1 > at0 hs p.2 then at0 hs p.1 else at0 hs p.2) = if at0 hs p.2 > at0 hs p.1 then at0 hs p.2 else at0 hs p.1 := by split <;> split <;> lia
    have h2 : (if at0 hs p.1 < at0 hs p.2 then at0 hs p.1 else at0 hs p.2) = if at0 hs p.2 < at0 hs p.1 then at0 hs p.2 else at0 hs p.1 := by split <;> split <;> lia
    rw [h1, h2]
theorem hdF_norm {ps : List (Int × Int)} : ∀ (ks hs : List Int), Ks ps.length ks -> hdF (ps.map norm) hs ks = hdF ps hs ks
  | [], _, _ => rfl
  | k :: ks, hs, h => by
    show hdF (ps.map norm) (stepH hs (tieN (ps.map norm) k)) ks = hdF ps (stepH hs (tieN ps k)) ks
    obtain ⟨k0, kl⟩ := h k List.mem_cons_self
    rw [tieN_norm k0 kl, stepH_norm, hdF_norm ks _ fun j hj => h j (List.mem_cons_of_mem _ hj)]
theorem gh_mono {n : Int} {ps : List (Int × Int)} {ks ks' hs hs' : List Int} (G : GH n ps ks hs) (G' : GH n ps ks' hs') (sub : ∀ k ∈ ks, k ∈ ks') {i j : Int} (i0 : 0 <= i) (i1 : i < n) (j0 : 0 <= j) (j1 : j < n) (e : at0 hs i = at0 hs j) : at0 hs' i = at0 hs' j := by
  have c := G.cl (fun x => at0 hs' i = at0 hs' x) fun k hk => by rw [G'.join k (sub k hk)]
  have c1 := c i i0 i1
  rw [e] at c1
  exact (c j j0 j1).mpr (c1.mp rfl)
theorem gh_le {n : Int} {ps : List (Int × Int)} {ks ks' hs hs' : List Int} (G : GH n ps ks hs) (G' : GH n ps ks' hs') (sub : ∀ k ∈ ks, k ∈ ks') {i : Int} (i0 : 0 <= i) (i1 : i < n) : at0 hs' i <= at0 hs i := by
  have l := G.le i i0 i1
  have m := gh_mono G G' sub l.1 (by lia) i0 i1 (G.idem i i0 i1)
  have l2 := G'.le (at0 hs i) l.1 (by lia)
  lia
theorem gh_same {n : Int} {ps : List (Int × Int)} {ks ks' hs hs' : List Int} (G : GH n ps ks hs) (G' : GH n ps ks' hs') (h : ∀ k, k ∈ ks ↔ k ∈ ks') : hs = hs' := by
  have l1 := G.len
  have l2 := G'.len
  apply List.ext_getElem (by lia)
  intro i h1 h2
  have a := gh_le G G' (fun k hk => (h k).mp hk) (i := i) (by lia) (by lia)
  have b := gh_le G' G (fun k hk => (h k).mpr hk) (i := i) (by lia) (by lia)
  have e1 : at0 hs i = hs[i] := by unfold at0; rw [Int.toNat_natCast]; simp [List.getD, h1]
  have e2 : at0 hs' i = hs'[i] := by unfold at0; rw [Int.toNat_natCast]; simp [List.getD, h2]
  lia
section
variable {n : Int} {ps : List (Int × Int)}
theorem c_same (n1 : 1 <= n) (hb : ∀ p ∈ ps, InN n p) {ks ks' : List Int} (h1 : Ks ps.length ks) (h2 : Ks ps.length ks') (h : ∀ k, k ∈ ks ↔ k ∈ ks') : cN n ps ks = cN n ps ks' := by
  unfold cN
  rw [gh_same (gh_run n1 hb h1) (gh_run n1 hb h2) h]
theorem c_snoc (n1 : 1 <= n) (hb : ∀ p ∈ ps, InN n p) {ks : List Int} {k : Int} (h1 : Ks ps.length ks) (k0 : 0 <= k) (kl : k < ps.length) :
    cN n ps (ks ++ [k]) = cN n ps ks - if at0 (hdF ps (ups n) ks) (tieN ps k).1 = at0 (hdF ps (ups n) ks) (tieN ps k).2 then 0 else 1 := by
  have G := gh_run n1 hb h1
  obtain ⟨a1, a2, b1, b2⟩ := tieN_in hb k0 kl
  unfold cN
  rw [hdF_snoc]
  generalize hdF ps (ups n) ks = hs at G ⊢
  have ln := G.len
  by_cases e : at0 hs (tieN ps k).1 = at0 hs (tieN ps k).2
  · rw [stepH_same e, if_pos e]; lia
  · obtain ⟨u, v, huv, e1, hu⟩ := stepH_ne e
    have m1 : at0 hs (tieN ps k).1 ∈ hs := at_mem a1 (by lia)
    have m2 : at0 hs (tieN ps k).2 ∈ hs := at_mem b1 (by lia)
    have mu : u ∈ hs := by rcases hu with ⟨z, _⟩ | ⟨z, _⟩ <;> rw [z] <;> assumption
    have mv : v ∈ hs := by rcases hu with ⟨_, z⟩ | ⟨_, z⟩ <;> rw [z] <;> assumption
    have := dcount_merge huv mu mv
    rw [e1, if_neg e]
    lia
theorem ks_app {m : Nat} {X Y : List Int} (h1 : Ks m X) (h2 : Ks m Y) : Ks m (X ++ Y) := fun k hk => by
  rcases List.mem_append.mp hk with z | z
  · exact h1 k z
  · exact h2 k z
theorem c_sub (n1 : 1 <= n) (hb : ∀ p ∈ ps, InN n p) : ∀ (D X Y : List Int), Ks ps.length D -> Ks ps.length X -> Ks ps.length Y -> (∀ k ∈ X, k ∈ Y) -> cN n ps Y - cN n ps (Y ++ D) <= cN n ps X - cN n ps (X ++ D)
  | [], X, Y, _, _, _, _ => by simp
  | d :: D, X, Y, hD, hX, hY, sub => by
    obtain ⟨d0, dl⟩ := hD d List.mem_cons_self
    have hd1 : Ks ps.length [d] := fun k hk => by rw [List.mem_singleton.mp hk]; exact ⟨d0, dl⟩
    have ih := c_sub n1 hb D (X ++ [d]) (Y ++ [d]) (fun k hk => hD k (List.mem_cons_of_mem _ hk)) (ks_app hX hd1) (ks_app hY hd1) fun k hk => by
      rcases List.mem_append.mp hk with z | z
      · exact List.mem_append_left _ (sub k z)
      · exact List.mem_append_right _ z
    rw [List.append_assoc, List.append_assoc] at ih
    have cx := c_snoc n1 hb hX d0 dl
    have cy := c_snoc n1 hb hY d0 dl
    obtain ⟨a1, a2, b1, b2⟩ := tieN_in hb d0 dl
    have mono := gh_mono (gh_run n1 hb hX) (gh_run n1 hb hY) sub a1 a2 b1 b2
    have key : cN n ps Y - cN n ps (Y ++ [d]) <= cN n ps X - cN n ps (X ++ [d]) := by
      rw [cx, cy]
      by_cases e : at0 (hdF ps (ups n) X) (tieN ps d).1 = at0 (hdF ps (ups n) X) (tieN ps d).2
      · rw [if_pos e, if_pos (mono e)]; lia
      · rw [if_neg e]; split <;> lia
    show cN n ps Y - cN n ps (Y ++ ([d] ++ D)) <= cN n ps X - cN n ps (X ++ ([d] ++ D))
    lia
theorem c_app (n1 : 1 <= n) (hb : ∀ p ∈ ps, InN n p) : ∀ (D X : List Int), Ks ps.length D -> Ks ps.length X -> 0 <= cN n ps X - cN n ps (X ++ D) /\ cN n ps X - cN n ps (X ++ D) <= D.length
  | [], X, _, _ => by simp
  | d :: D, X, hD, hX => by
    obtain ⟨d0, dl⟩ := hD d List.mem_cons_self
    have hd1 : Ks ps.length [d] := fun k hk => by rw [List.mem_singleton.mp hk]; exact ⟨d0, dl⟩
    have ih := c_app n1 hb D (X ++ [d]) (fun k hk => hD k (List.mem_cons_of_mem _ hk)) (ks_app hX hd1)
    rw [List.append_assoc] at ih
    have cx := c_snoc n1 hb hX d0 dl
    show 0 <= cN n ps X - cN n ps (X ++ ([d] ++ D)) /\ cN n ps X - cN n ps (X ++ ([d] ++ D)) <= ((D.length + 1 : Nat) : Int)
    split at cx <;> lia
theorem c_nil (n1 : 1 <= n) (n9 : n <= 9) : cN n ps [] = n := ups_dc n1 n9
theorem c_within (n1 : 1 <= n) (n9 : n <= 9) (hb : ∀ p ∈ ps, InN n p) {A : List Int} (hA : Ks ps.length A) : 0 <= n - cN n ps A /\ n - cN n ps A <= A.length := by
  have := c_app n1 hb A [] hA (fun _ z => nomatch z)
  rw [List.nil_append, c_nil n1 n9] at this
  exact this
end
def mvP (n t : Int) (p : Int × Int) : Int × Int := ((p.1 + t) % n, (p.2 + t) % n)
def mv (n t : Int) (ps : List (Int × Int)) : List (Int × Int) := ps.reverse.map (mvP n t)
def tn (ps : List (Int × Int)) (k : Int) : Int := (ps.length : Int) - 1 - k
end My
namespace My
open PySem L2
def allB : Nat -> List (List Bool)
  | 0 => [[]]
  | m + 1 => (allB m).flatMap fun l => [true :: l, false :: l]
theorem allB_mem : ∀ {m : Nat} {bs : List Bool}, bs.length = m -> bs ∈ allB m
  | 0, [], _ => List.mem_singleton.mpr rfl
  | 0, _ :: _, h => nomatch h
  | m + 1, [], h => nomatch h
  | m + 1, b :: bs, h => by
    refine List.mem_flatMap.mpr ⟨bs, allB_mem (by simpa using h), ?_⟩
    cases b <;> simp
def pkL (m : Nat) (bs : List Bool) : List Int := (((ups m).zip bs).filter (·.2)).map (·.1)
def pkN (m b : Nat) : List Int := (((List.range m).filter fun k => b.testBit k).map fun (k : Nat) => (k : Int))
def pw : List (List Int) -> Bool
  | [] => true
  | p :: l => l.all (fun q => !HT.lexLt q p) && pw l
theorem pw_of : ∀ {l : List (List Int)}, pw l = true -> l.Pairwise LexLe
  | [], _ => .nil
  | p :: l, h => by
    have e : pw (p :: l) = (l.all (fun q => !HT.lexLt q p) && pw l) := rfl
    rw [e, Bool.and_eq_true, List.all_eq_true] at h
    exact .cons (fun q hq => by have := h.1 q hq; simpa [LexLe] using this) (pw_of h.2)
def ndB : List (List Int) -> Bool
  | [] => true
  | p :: l => !l.contains p && ndB l
theorem ndB_of : ∀ {l : List (List Int)}, ndB l = true -> l.Nodup
  | [], _ => .nil
  | p :: l, h => by
    have e : ndB (p :: l) = (!l.contains p && ndB l) := rfl
    rw [e, Bool.and_eq_true] at h
    exact List.nodup_cons.mpr ⟨by simpa using h.1, ndB_of h.2⟩
def chkM (m : Nat) : Bool :=
  ((List.range (2 ^ m)).map (pkN m)).isPerm (upto m (m + 1)) && ((allB m).all fun bs => (upto m (m + 1)).contains (pkL m bs)) && (List.range (m + 1)).all (fun r => pw ((upto m (m + 1)).filter fun p => decide (p.length = r))) && ndB (upto m (m + 1))
theorem chkM_all : ∀ m ∈ ([0, 1, 2, 3, 4, 5, 6, 7, 8] : List Nat), chkM m = true := by decide +kernel
structure PkOk (m : Nat) : Prop where
  perm : ((List.range (2 ^ m)).map (pkN m)).Perm (upto m (m + 1))
  all : ∀ bs : List Bool, bs.length = m -> pkL m bs ∈ upto m (m + 1)
  nd : (upto m (m + 1)).Nodup
  up : ∀ r, r <= m -> ((upto m (m + 1)).filter fun p => decide (p.length = r)).Pairwise LexLe
theorem pk_ok {m : Nat} (h : m <= 8) : PkOk m := by
  have c : chkM m = true := chkM_all m (by
    have : m = 0 \/ m = 1 \/ m = 2 \/ m = 3 \/ m = 4 \/ m = 5 \/ m = 6 \/ m = 7 \/ m = 8 := by lia
    rcases this with rfl | rfl | rfl | rfl | rfl | rfl | rfl | rfl | rfl <;> decide)
  unfold chkM at c
  rw [Bool.and_eq_true, Bool.and_eq_true, Bool.and_eq_true, List.all_eq_true, List.all_eq_true] at c
  obtain ⟨⟨⟨c1, c2⟩, c3⟩, c4⟩ := c
  refine ⟨List.isPerm_iff.mp c1, fun bs hb => ?_, ndB_of c4, fun r hr => pw_of (c3 r (List.mem_range.mpr (by lia)))⟩
  have := c2 bs (allB_mem hb)
  simpa using this
theorem filt_zip (q : Int -> Bool) : ∀ l : List Int, l.filter q = ((l.zip (l.map q)).filter (·.2)).map (·.1)
  | [] => rfl
  | x :: l => by
    rw [List.map_cons, List.zip_cons_cons]
    cases h : q x
    · rw [List.filter_cons_of_neg (by simp [h]), List.filter_cons_of_neg (by simp), filt_zip q l]
    · rw [List.filter_cons_of_pos h, List.filter_cons_of_pos (by simp), List.map_cons, filt_zip q l]
theorem up_eq : ∀ {a b : List Int}, a.Pairwise (· < ·) -> b.Pairwise (· < ·) -> (∀ i, i ∈ a ↔ i ∈ b) -> a = b := fun {a b} h1 h2 h =>
  perm_up (same_perm (h1.imp fun z => by lia) (h2.imp fun z => by lia) h) (h1.imp fun z => by lia) (h2.imp fun z => by lia)
theorem rise_mem {m : Nat} {ks : List Int} (h8 : m <= 8) (hk : Ks m ks) (up : ks.Pairwise (· < ·)) : ks ∈ upto m (m + 1) := by
  have e : ks = (ups m).filter fun i => decide (i ∈ ks) := up_eq up ((ups_up m).filter _) fun i => by
    rw [List.mem_filter, mem_ups, decide_eq_true_iff]
    exact ⟨fun z => ⟨hk i z, z⟩, fun z => z.2⟩
  rw [e, filt_zip]
  exact (pk_ok h8).all _ (by rw [List.length_map, ups_len]; simp)
theorem rise_at : ∀ {p : List Int}, rising p = true -> p.Pairwise (· < ·)
  | [], _ => .nil
  | [x], _ => List.pairwise_singleton _ _
  | x :: y :: r, h => by
    have e : rising (x :: y :: r) = (decide (x < y) && rising (y :: r)) := rfl
    rw [e, Bool.and_eq_true, decide_eq_true_iff] at h
    have ih := rise_at h.2
    refine .cons (fun z hz => ?_) ih
    rcases List.mem_cons.mp hz with e | hz
    · rw [e]; exact h.1
    · have := (List.pairwise_cons.mp ih).1 z hz
      lia
section
variable {n : Int} {ps : List (Int × Int)}
theorem rkP_c (ks : List Int) : rkP n ps ks = n - cN n ps ks := rfl
theorem rkP_rk (n1 : 1 <= n) (n9 : n <= 9) (hb : ∀ p ∈ ps, InN n p) {ks : List Int} (hk : Ks ps.length ks) : rkP n ps ks = rk n ps ks := by
  rw [<- rank_eq n1 n9 hb hk, hdF_norm ks _ hk]
  rfl
theorem allP_rise (h8 : ps.length <= 8) {p : List Int} : p ∈ allP ps ↔ Ks ps.length p /\ p.Pairwise (· < ·) := ⟨fun h => ⟨allP_ks h8 h, rise_at (okPick_in (allP_in h8 h)).2.1⟩, fun h => rise_mem h8 h.1 h.2⟩
theorem isTr_mem (h8 : ps.length <= 8) {ks : List Int} (hk : Ks ps.length ks) (up : ks.Pairwise (· < ·)) : isTr n ps ks = decide (ks ∈ treesP n ps) := by
  unfold isTr treesP withP
  rw [Bool.eq_iff_iff, Bool.and_eq_true, decide_eq_true_iff, decide_eq_true_iff, decide_eq_true_iff, List.mem_filter, List.mem_filter, decide_eq_true_iff, decide_eq_true_iff]
  exact ⟨fun z => ⟨⟨rise_mem h8 hk up, z.1⟩, z.2⟩, fun z => ⟨z.1.2, z.2⟩⟩
theorem greedy (n1 : 1 <= n) (hb : ∀ p ∈ ps, InN n p) : ∀ (ks done sub : List Int), Ks ps.length ks -> Ks ps.length done -> sub.Sublist done -> cN n ps sub = cN n ps done -> (sub.length : Int) = n - cN n ps sub -> ∃ sub', sub'.Sublist (done ++ ks) /\ cN n ps sub' = cN n ps (done ++ ks) /\ (sub'.length : Int) = n - cN n ps sub'
  | [], done, sub, _, _, h1, h2, h3 => ⟨sub, by rw [List.append_nil]; exact h1, by rw [List.append_nil]; exact h2, h3⟩
  | k :: ks, done, sub, hk, hd, h1, h2, h3 => by
    obtain ⟨k0, kl⟩ := hk k List.mem_cons_self
    have hk1 : Ks ps.length [k] := fun j hj => by rw [List.mem_singleton.mp hj]; exact ⟨k0, kl⟩
    have hs : Ks ps.length sub := fun j hj => hd j (h1.subset hj)
    have a1 := c_app n1 hb [k] done hk1 hd
    have a2 := c_app n1 hb [k] sub hk1 hs
    have a3 := c_sub n1 hb [k] sub done hk1 hs hd fun j hj => h1.subset hj
    have e1 : (([k] : List Int).length : Int) = 1 := rfl
    have hk' : Ks ps.length ks := fun j hj => hk j (List.mem_cons_of_mem _ hj)
    by_cases c : cN n ps (done ++ [k]) = cN n ps done
    · have := greedy n1 hb ks (done ++ [k]) sub hk' (ks_app hd hk1) (h1.trans (List.sublist_append_left _ _)) (by lia) h3
      rw [List.append_assoc] at this
      exact this
    · have := greedy n1 hb ks (done ++ [k]) (sub ++ [k]) hk' (ks_app hd hk1) (h1.append (List.Sublist.refl _)) (by lia) (by rw [List.length_append]; simp; lia)
      rw [List.append_assoc] at this
      exact this
theorem trees_ne (n1 : 1 <= n) (n9 : n <= 9) (hb : ∀ p ∈ ps, InN n p) (h8 : ps.length <= 8) : treesP n ps ≠ [] := by
  obtain ⟨sub, h1, h2, h3⟩ := greedy n1 hb (ups ps.length) [] [] (ups_ks _) (fun _ z => nomatch z) (List.Sublist.refl _) rfl (by rw [c_nil n1 n9]; simp)
  rw [List.nil_append] at h1 h2
  have hk : Ks ps.length sub := fun j hj => ups_ks _ j (h1.subset hj)
  have up : sub.Pairwise (· < ·) := (ups_up _).sublist h1
  have t : isTr n ps sub = true := by
    unfold isTr rkAll
    rw [Bool.and_eq_true, decide_eq_true_iff, decide_eq_true_iff, rkP_c, rkP_c]
    lia
  rw [isTr_mem h8 hk up, decide_eq_true_iff] at t
  intro z
  rw [z] at t
  cases t
theorem trees_len {p : List Int} (h : p ∈ treesP n ps) : (p.length : Int) = rkAll n ps := by
  unfold treesP withP at h
  have := (List.mem_filter.mp (List.mem_filter.mp h).1).2
  exact of_decide_eq_true this
theorem trees_all {p : List Int} (h : p ∈ treesP n ps) : p ∈ allP ps := (List.mem_filter.mp (List.mem_filter.mp h).1).1
end
def spAt (K : W.Frag) : Sp := fun vs H Q _ => ∃ (a : Addr) (ns : List Int) (k : Nat), vs = [.ref a, .int k] /\ SqL K H a (ns.map V.int) /\ Q (.int (ns.getD k 0)) H
def spWeb5 (K : W.Frag) : Sp := fun vs H Q _ => ∃ (a : Addr) (ns : List Int), vs = [.ref a] /\ SqL K H a (ns.map V.int) /\ ∀ wv n ps H', Same H H' -> WebAt H' wv n ps -> WebOk n ps -> ps.length <= 6 -> Q wv H'
theorem cut_to (ns : List Int) (m : Int) (h0 : 0 <= m) (h8 : m <= 6) : ∃ ms : List Int, cutV (ns.map V.int) (some 1) (some (1 + m)) = ms.map V.int /\ ms.length <= 6 := by
  obtain ⟨j, rfl⟩ := Int.eq_ofNat_of_zero_le h0
  refine ⟨(ns.drop (HT.sIx (ns.map V.int).length 0 (some ((1 : Nat) : Int)))).take (HT.sIx (ns.map V.int).length (ns.map V.int).length (some ((1 + j : Nat) : Int)) - HT.sIx (ns.map V.int).length 0 (some ((1 : Nat) : Int))), ?_, ?_⟩
  · rw [show (1 + (j : Int)) = ((1 + j : Nat) : Int) by lia, show (some (1 : Int)) = some ((1 : Nat) : Int) from rfl]
    unfold cutV
    rw [List.map_take, List.map_drop]
  · rw [List.length_take, HT.sIx_nat, HT.sIx_nat]
    lia
theorem ties_put {H : Hp} {l : Addr} {ys zs : List V} {xs : List V} {ps : List (Int × Int)} (h : Paired (TieAt H) xs ps) (hl : H l = some (.lst ys)) : Paired (TieAt (upd H l (.lst zs))) xs ps := L2.Paired.mapP h fun _ _ ⟨a, h1, h2⟩ => ⟨a, h1, by
  rw [upd_ne (ne_of h2 hl (fun z => nomatch z))]
  exact h2⟩
theorem same_put {H H2 : Hp} {p : Addr} {o : HO} (s : Same H H2) (h : H p = none) : Same H (upd H2 p o) := fun b u e => by rw [upd_ne (ne_of_none e h)]; exact s b u e
theorem get_int' {ks : List Int} {i : Nat} {x : V} (hx : (ks.map V.int)[i]? = some x) : ∃ k, ks[i]? = some k /\ V.int k = x := by
  rw [List.getElem?_map] at hx
  cases e : ks[i]? with
  | none => rw [e] at hx; simp at hx
  | some k => rw [e] at hx; simp at hx; exact ⟨k, rfl, hx⟩
theorem last_tie {H : Hp} {xs : List V} {ps : List (Int × Int)} (h : Paired (TieAt H) xs ps) (ne : xs ≠ []) : ∃ c p, atI xs (-1) = some (.ref c) /\ H c = some (.tup [.int p.1, .int p.2]) /\ p ∈ ps := by
  obtain ⟨ini, z, ez⟩ : ∃ ini z, xs = ini ++ [z] := ⟨xs.dropLast, xs.getLast ne, (List.dropLast_concat_getLast ne).symm⟩
  have g : xs[ini.length]? = some z := by rw [ez]; simp
  obtain ⟨p, ep, c, rfl, hc⟩ := Paired.at h g
  refine ⟨c, p, ?_, hc, List.mem_of_getElem? ep⟩
  rw [ez]
  exact atI_last _ _
section
variable {P : Program} {w : World} {K : W.Frag} {mg : Str -> Option Value} {base : Heap}
theorem scAt : FnScope ["_law_script", "_law_k"] ["_law_script", "_law_k"] (defScope sAt) := ⟨rfl, rfl, rfl, by decide +kernel, rfl, by decide +kernel, by decide +kernel⟩
theorem d_at (T : Txt K mg) (S : Src K mg "_law_at" sAt ["_law_script", "_law_k"]) : Def P w K mg base 1 "_law_at" ["_law_script", "_law_k"] (spAt K) := by
  refine S.def scAt (fun vs H Q E h => ?_) (fun f cdv A outer s H vs Q E hr h => ?_)
  · obtain ⟨_, _, _, rfl, _⟩ := h; rfl
  · obtain ⟨a, ns, k, rfl, hq, q⟩ := h
    refine ⟨_, pss_cons (ps_if (pt_cmpR op_lt (pv 1) (pe_callB (call_lenK K) (by rfl) T.len PySem.boot_len (pa_cons (pv 0) pa_nil)) (nomark _)) (pss_one (ps_ret (pe_ix (ix_listK K) (pv 0) (pv 1) (fun _ _ => rfl)))) pss_nil) (pss_one (ps_ret pe_int)), ?_⟩
    refine ⟨_, rfl, _, rfl, a, _, rfl, .inl hq, _, _, rfl, rfl, _, rfl, ?_⟩
    rw [List.length_map]
    by_cases h : k < ns.length
    · rw [decide_eq_true (show (k : Int) < (ns.length : Int) by lia)]
      refine iteT ⟨_, rfl, _, rfl, a, _, _, .int (ns.getD k 0), rfl, rfl, hq, atI_nat ?_, q⟩
      rw [List.getElem?_map, List.getD_eq_getElem?_getD]
      simp [h]
    · rw [decide_eq_false (show ¬ (k : Int) < (ns.length : Int) by lia)]
      refine iteF ?_
      rw [List.getD_eq_getElem?_getD, List.getElem?_eq_none (by lia)] at q
      exact q
theorem ite_st {b : Bool} {p : Prop} {F : St -> Hp -> Prop} {σ σ' : St} {H : Hp} (S : St -> Prop) (key : ∀ σ, S σ -> F σ H) (h2 : S σ) (hp : F σ' H -> p) (h1 : S σ') : if b = true then p else F σ H := by
  cases b with
  | true => exact hp (key _ h1)
  | false => exact key _ h2
theorem and_join {b : Bool} {p q : Prop} {F : St -> Hp -> Prop} {σ : St} {H : Hp} (S : St -> Hp -> Prop) (key : ∀ σ H, S σ H -> F σ H) (h0 : S σ H) (hp : (∀ σ H, S σ H -> F σ H) -> p) : if b = true then p else (if false = true then q else F σ H) := by
  cases b with
  | true => exact hp key
  | false => exact key _ _ h0
theorem scWeb : FnScope ["_law_script", "_law_head", "_law_points", "_law_ties", "_law_cell", "_law_a", "_law_b"] ["_law_script"] (defScope sWeb) := ⟨rfl, rfl, rfl, by decide +kernel, rfl, by decide +kernel, by decide +kernel⟩
theorem d_web (T : Txt K mg) (S : Src K mg "_law_web" sWeb ["_law_script"]) (DA : Def P w K mg base 1 "_law_at" ["_law_script", "_law_k"] (spAt K)) : Def P w K mg base 2 "_law_web" ["_law_script"] (spWeb5 K) := by
  refine S.def scWeb (fun vs H Q E h => ?_) (fun f cdv A outer s H vs Q E hr h => ?_)
  · obtain ⟨_, _, rfl, _⟩ := h; rfl
  · obtain ⟨a, ns, rfl, hq, q⟩ := h
    have hr1 : Room 1 _ := hr.mono (by decide)
    refine ⟨_, pss_cons (ps_set (i := 1) scWeb.nd rfl (Or.inl rfl) (pe_def DA hr1 rfl (pa_cons (pv 0) (pa_cons pe_int pa_nil))))
      (pss_cons (ps_set (i := 2) scWeb.nd rfl (Or.inl rfl) (pe_op op_add pe_int (pe_op op_mod (pv 1) pe_int)))
      (pss_cons (ps_if (pt_cmpR op_eq (pe_op op_mod (pe_op op_fdiv (pv 1) pe_int) pe_int) pe_int (nomark _)) (pss_one (ps_set (i := 2) scWeb.nd rfl (Or.inl rfl) (pe_op op_add pe_int (pe_op op_mod (pe_op op_fdiv (pv 1) pe_int) pe_int)))) pss_nil)
      (pss_cons (ps_set (i := 3) scWeb.nd rfl (Or.inl rfl) (pe_lst pa_nil))
      (pss_cons (ps_for PassesOwn.never rfl (pi_seqK K .l (pe_slice (sl_listK K) (pv 0) (po_some pe_int) (po_some pe_int))) (pg_name (i := 4) scWeb.nd rfl (Or.inl rfl))
        (pss_cons (ps_set (i := 5) scWeb.nd rfl (Or.inl rfl) (pe_op op_mod (pv 4) (pv 2)))
        (pss_cons (ps_set (i := 6) scWeb.nd rfl (Or.inl rfl) (pe_op op_mod (pe_op op_fdiv (pv 4) (pv 2)) (pv 2)))
        (pss_cons (ps_if (PW.pt (pw_and (pt_cmpR op_eq (pe_op op_mod (pe_op op_fdiv (pv 4) pe_int) pe_int) pe_int (nomark _)) (pw_and1 (pt_cmpR (op_neNilK K (units66 hr)) (pv 3) (pe_lst pa_nil) (nomark _)))))
          (pss_one (ps_asg (pe_ix (ix_listK K) (pv 3) (pe_un un_neg pe_int) (fun _ _ => rfl)) (pg_tupK K 2 rfl (pgs_cons (pg_name (i := 5) scWeb.nd rfl (Or.inl rfl)) (pgs_cons (pg_name (i := 6) scWeb.nd rfl (Or.inl rfl)) pgs_nil))))) pss_nil)
        (pss_one (ps_expr (pe_bm PySem.F.plainAttrs_list PySem.F.slot_list_append PySem.F.type_list_append mt_append (pv 3) (pa_cons (pe_tup (pa_cons (pe_callB (call_min2 rfl) (by rfl) T.min boot_min' (pa_cons (pv 5) (pa_cons (pv 6) pa_nil))) (pa_cons (pe_callB (call_max2 rfl) (by rfl) T.max boot_max' (pa_cons (pv 5) (pa_cons (pv 6) pa_nil))) pa_nil))) pa_nil))))))))
      (pss_one (ps_ret (pe_tup (pa_cons (pv 2) (pa_cons (pe_callTy (call_tuple_ofK K) rfl T.tuple boot_tuple' (pa_cons (pv 3) pa_nil)) pa_nil))))))))), ?_⟩
    refine ⟨_, rfl, a, ns, 0, rfl, hq, ?_⟩
    generalize ns.getD 0 0 = head
    have b1 := mod_in head 5 (by decide)
    have b2 := mod_in (head / 40) 9 (by decide)
    refine ⟨_, rfl, _, _, rfl, rfl, (by show (0 : Int) < 5; decide), _, _, rfl, rfl, ?_⟩
    refine ⟨_, rfl, _, _, rfl, rfl, ⟨by decide, by decide⟩, _, _, rfl, rfl, (by show (0 : Int) < 8; decide), rfl, _, rfl, ?_⟩
    refine ite_st (fun σ => ∃ n : Int, 1 <= n /\ n <= 9 /\ σ = [some (.ref a), some (.int head), some (.int n), none, none, none, none]) ?_ ⟨1 + head % 5, by lia, by lia, rfl⟩ (fun h => ⟨_, rfl, _, _, rfl, rfl, ⟨by decide, by decide⟩, _, _, rfl, rfl, (by show (0 : Int) < 9; decide), _, _, rfl, rfl, h⟩) ⟨1 + head / 40 % 9, by lia, by lia, rfl⟩
    rintro σ ⟨n, n1, n9, rfl⟩
    obtain ⟨ms, em, ml⟩ := cut_to ns 5 (by decide) (by decide)
    rw [show (1 : Int) + 5 = 6 from rfl] at em
    any_goals (
      any_goals (
        refine ⟨Nat.zero_le _, fun l hl => ?_⟩
        have s1 := Same.new (o := HO.lst []) hl
        have g1 : (upd H l (.lst [])) l = some (.lst []) := upd_same
        generalize upd H l (.lst []) = H1 at s1 g1 ⊢
        refine ⟨_, rfl, _, rfl, _, rfl, a, _, rfl, s1.seq hq, fun p1 hp1 => ⟨p1, rfl, ⟨_, SqL.of upd_same⟩, ?_⟩⟩
        rw [em]
        have s2 := Same.new (o := HO.lst (ms.map V.int)) hp1
        have hp1' : (upd H1 p1 (.lst (ms.map V.int))) p1 = some (.lst (ms.map V.int)) := upd_same
        have g2 := s2 _ _ g1
        have nlp : p1 ≠ l := fun z => by rw [z] at hp1; rw [g1] at hp1; cases hp1
        have s12 := s1.trans s2
        generalize upd H1 p1 (.lst (ms.map V.int)) = H2 at s2 hp1' g2 s12 ⊢
        refine for_seq (k := .l) (K := K) (a := p1) (xs := ms.map V.int) (fun i σ H' => ∃ u v r, σ = [some (.ref a), some (.int head), some (.int n), some (.ref l), u, v, r] /\ Same H H' /\ H' p1 = some (.lst (ms.map V.int)) /\ ∃ xs ps, H' l = some (.lst xs) /\ Paired (TieAt H') xs ps /\ ps.length = i /\ ∀ p ∈ ps, InN n p)
          ⟨_, _, _, rfl, s12, hp1', [], [], g2, .nil, rfl, fun _ z => nomatch z⟩ (fun i σ H' _ ⟨_, _, _, _, _, z, _⟩ => SqL.of z) ?_ ?_
        · rintro i x σ H3 hx ⟨u, v, r, rfl, sm, hp3, xs, ps, hl3, ht, pl, hb⟩
          obtain ⟨cell, ec, rfl⟩ := get_int' hx
          have il : i < 8 := by
            have := (List.getElem?_eq_some_iff.mp ec).1
            lia
          dsimp only [gName, List.set]
          refine ⟨_, rfl, _, rfl, _, _, rfl, rfl, (by show 0 < n; lia), ?_⟩
          refine ⟨_, rfl, _, rfl, _, _, rfl, rfl, ⟨by show 0 < n; lia, by show n < 1073741824; lia⟩, _, rfl, _, _, rfl, rfl, (by show 0 < n; lia), ?_⟩
          have m1 := mod_in cell n (by lia)
          have m2 := mod_in (cell / n) n (by lia)
          dsimp only
          generalize cell % n = A1 at m1 ⊢
          generalize cell / n % n = B1 at m2 ⊢
          refine ⟨_, rfl, _, _, rfl, rfl, ⟨by decide, by decide⟩, _, _, rfl, rfl, (by show (0 : Int) < 4; decide), rfl, _, rfl, ?_⟩
          refine and_join (fun σ H4 => ∃ A1 B1 : Int, (0 <= A1 /\ A1 < n) /\ (0 <= B1 /\ B1 < n) /\ Same H3 H4 /\ σ = [some (.ref a), some (.int head), some (.int n), some (.ref l), some (.int cell), some (.int A1), some (.int B1)]) ?_ ⟨A1, B1, m1, m2, Same.refl _, rfl⟩ ?_
          case refine_2 =>
            intro key
            refine ⟨_, rfl, Nat.zero_le _, fun e he => ⟨l, e, xs, rfl, rfl, SqL.of (Same.new he _ _ hl3), SqL.of upd_same, _, rfl, ?_⟩⟩
            have s4 := Same.new (o := HO.lst []) he
            have ht4 := ties_same ht s4
            have hl4 := s4 _ _ hl3
            generalize upd H3 e (.lst []) = H4 at s4 ht4 hl4 ⊢
            by_cases x0 : xs = []
            · rw [decide_eq_true x0]
              exact iteF (key _ _ ⟨A1, B1, m1, m2, s4, rfl⟩)
            · rw [decide_eq_false x0]
              obtain ⟨c, p, e1, e2, e3⟩ := last_tie ht4 x0
              have ip := hb p e3
              exact iteT ⟨_, rfl, _, rfl, l, _, _, _, rfl, rfl, SqL.of hl4, e1, c, _, rfl, SqT.of e2, rfl, _, _, rfl, _, _, rfl, rfl, key _ _ ⟨p.1, p.2, ⟨ip.1, ip.2.1⟩, ⟨ip.2.2.1, ip.2.2.2⟩, s4, rfl⟩⟩
          clear m1 m2 A1 B1
          rintro σ H4 ⟨A1, B1, m1, m2, s4, rfl⟩
          any_goals (
            have hl4 := s4 _ _ hl3
            have hp4 := s4 _ _ hp3
            have ht4 := ties_same ht s4
            have sm4 := sm.trans s4
            refine ⟨_, rfl, .inl ⟨rfl, _, SqL.of hl4⟩, _, rfl, _, rfl, _, _, rfl, _, rfl, _, rfl, _, _, rfl, by show 2 <= sizeLine; decide, fun c hc => ?_⟩
            have s5 := Same.new (o := HO.tup [.int (if B1 < A1 then B1 else A1), .int (if B1 > A1 then B1 else A1)]) hc
            have hl5 := s5 _ _ hl4
            have hp5 := s5 _ _ hp4
            have ht5 := ties_same ht4 s5
            have hc5 : (upd H4 c (.tup [.int (if B1 < A1 then B1 else A1), .int (if B1 > A1 then B1 else A1)])) c = some (.tup [.int (if B1 < A1 then B1 else A1), .int (if B1 > A1 then B1 else A1)]) := upd_same
            have sm5 := sm4.trans s5
            generalize upd H4 c (.tup [.int (if B1 < A1 then B1 else A1), .int (if B1 > A1 then B1 else A1)]) = H5 at hl5 hp5 ht5 hc5 sm5 ⊢
            have xl : xs.length = ps.length := Paired.length ht5
            refine ⟨l, xs, .ref c, rfl, rfl, hl5, Nat.lt_of_le_of_lt (show xs.length <= 8 by lia) (by decide), ?_⟩
            have tc : Paired (TieAt H5) (xs ++ [.ref c]) (ps ++ [(if B1 < A1 then B1 else A1, if B1 > A1 then B1 else A1)]) := L2.Paired.snoc ht5 ⟨c, rfl, hc5⟩
            refine ⟨_, _, _, rfl, same_put sm5 hl, by rw [upd_ne nlp]; exact hp5, xs ++ [.ref c], _, upd_same, ties_put tc hl5, by rw [List.length_append, pl, List.length_singleton], fun p hp => ?_⟩
            rcases List.mem_append.mp hp with hp | hp
            · exact hb p hp
            · rw [List.mem_singleton.mp hp]
              unfold InN
              dsimp only
              split <;> split <;> lia)
        · rintro σ H3 ⟨u, v, r, rfl, sm, hp3, xs, ps, hl3, ht, pl, hb⟩
          rw [List.length_map] at pl
          refine ⟨_, rfl, _, rfl, l, xs, rfl, .inl ⟨SqL.of hl3, fun d hd => ⟨by show 2 <= sizeLine; decide, fun c hc => ?_⟩⟩⟩
          have s4 := Same.new (o := HO.tup xs) hd
          have s5 := Same.new (o := HO.tup [.int n, .ref d]) hc
          exact q (.ref c) n ps _ (sm.trans (s4.trans s5)) ⟨c, d, xs, rfl, upd_same, s5 _ _ upd_same, ties_same ht (s4.trans s5)⟩ ⟨⟨n1, n9⟩, hb, by lia⟩ (by lia)))
end
theorem put_fresh {H H2 : Hp} {g : Addr} {o : HO} (s : Same H H2) (h : H g = none) : Same H (upd H2 g o) := fun b u e => by rw [upd_ne (ne_of_none e h)]; exact s b u e
theorem kp_int (K : W.Frag) : PySem.W.kitOne K (.type "int") (.type "int") = some true := by first | rfl | decide +kernel
theorem kp_intb (K : W.Frag) : PySem.W.kitOne K (.type "int") (.type "bool") = some false := by first | rfl | decide +kernel
def HK (kd : Kd) (H : Hp) (a : Addr) (xs : List V) : Prop := match kd with | .l => H a = some (.lst xs) | .t => FzT H a xs
theorem HK.sq {kd : Kd} {K : W.Frag} {H : Hp} {a : Addr} {xs : List V} (h : HK kd H a xs) : SqK kd K H a xs := by
  cases kd with
  | l => exact SqL.of h
  | t => exact FzT.sq h
theorem HK.same {kd : Kd} {H H' : Hp} {a : Addr} {xs : List V} (h : HK kd H a xs) (s : Same H H') : HK kd H' a xs := by
  cases kd with
  | l => exact s _ _ h
  | t => exact FzT.same h s
def OrdAt (kd : Kd) (H : Hp) (o : V) (m : Nat) (ord : List Int) : Prop := (o = .non /\ ord = ups m) \/ ∃ a, o = .ref a /\ HK kd H a (ord.map V.int) /\ ord.Perm (ups m)
theorem OrdAt.perm {kd : Kd} {H : Hp} {o : V} {m : Nat} {ord : List Int} (h : OrdAt kd H o m ord) : ord.Perm (ups m) := by
  rcases h with ⟨_, rfl⟩ | ⟨_, _, _, p⟩
  · exact List.Perm.refl _
  · exact p
def rSortedK (kd : Kd) (K : W.Frag) : List V -> Hp -> VK -> Prop := fun xs H Q => ∃ (p : Addr) (ns : List Int), xs = [.ref p] /\ SqK kd K H p (ns.map V.int) /\ ns.length < 64 /\ ∀ (l : Addr) (ms : List Int), ms.Perm ns -> ms.Pairwise (· <= ·) -> H l = none -> Q (.ref l) (upd H l (.lst (ms.map V.int)))
theorem call_sortedK {X : Cx} (kd : Kd) : CallR X (.builtin "sorted") (rSortedK kd X.K) := by
  cases kd with
  | l => exact call_sortedI
  | t => exact call_sortedTI
def spWholeI : Sp := fun vs H Q _ => ∃ i : Int, vs = [.int i] /\ Q (.bl true) H
def spTold (K : W.Frag) : Sp := fun vs H Q _ => ∃ (kd : Kd) (wv o : V) (n : Int) (ps : List (Int × Int)) (ord : List Int), vs = [wv, o] /\ WebAt H wv n ps /\ ps.length <= 8 /\ OrdAt kd H o ps.length ord /\ ∀ t H', Same H H' -> FzT H' t (ord.map V.int) -> Q (.ref t) H'
theorem kit2 (K : W.Frag) {us : List Value} (h : Vals [V.ty "list", V.ty "tuple"] us) (kd : Kd) : PySem.W.kitAny K (.type (match kd with | .l => "list" | .t => "tuple")) us = some true := by
  obtain ⟨u1, u2, rfl, r1, r2⟩ := Vals.two h
  cases (show u1 = Value.type "list" from r1)
  cases (show u2 = Value.type "tuple" from r2)
  cases kd with
  | l => first | rfl | decide +kernel
  | t => first | rfl | decide +kernel
section
variable {P : Program} {w : World} {K : W.Frag} {mg : Str -> Option Value} {base : Heap}
theorem scIsWhole : FnScope ["thing"] ["thing"] (defScope sIsWhole) := ⟨rfl, rfl, rfl, by decide +kernel, rfl, by decide +kernel, by decide +kernel⟩
theorem d_wholeI (T : Txt K mg) (S : Src K mg "is_whole" sIsWhole ["thing"]) : Def P w K mg base 1 "is_whole" ["thing"] spWholeI := by
  refine S.def scIsWhole (fun vs H Q E h => ?_) (fun f cdv A outer s H vs Q E hr h => ?_)
  · obtain ⟨x, rfl, _⟩ := h; rfl
  · obtain ⟨i, rfl, q⟩ := h
    refine ⟨_, pss_one (ps_ret (pe_and (pe_callB (call_isiK K) (by rfl) T.isi boot_isi (pa_cons (pv 0) (pa_cons (pe_bltn (v := .ty "int") rfl T.int boot_int' rfl) pa_nil)))
      (pe_one (pe_not (pe_callB (call_isiK K) (by rfl) T.isi boot_isi (pa_cons (pv 0) (pa_cons (pe_bltn (v := .ty "bool") rfl T.bool boot_bool' rfl) pa_nil))))))), ?_⟩
    exact ⟨_, rfl, _, _, _, _, _, rfl, rfl, .int _, kp_int K, _, rfl, iteT ⟨_, rfl, _, _, _, _, _, rfl, rfl, .int _, kp_intb K, _, rfl, q⟩⟩
def spOnce : Sp := fun vs H Q _ => ∃ (kd : Kd) (a : Addr) (m : Nat) (ord : List Int), vs = [.ref a, .int m] /\ HK kd H a (ord.map V.int) /\ m <= 10 /\ ord.Perm (ups m) /\ ∀ H', Same H H' -> Q (.bl true) H'
theorem same_lstO {K : W.Frag} {H : Hp} {a b : Addr} {p : List Int} (h1 : SqL K H a (p.map V.int)) (h2 : SqL K H b (p.map V.int)) {Q : VK} {out : Bool} (q : Q (.bl out) H) : rSame K out (.ref a) (.ref b) H Q := by
  refine ⟨a, b, _, _, 0, rfl, rfl, .inr ⟨h1, h2⟩, rfl, by decide, fun j x y e1 e2 => ?_, q⟩
  rw [e1] at e2
  cases e2
  rw [List.getElem?_map] at e1
  cases e : p[j]? with
  | none => rw [e] at e1; cases e1
  | some k => rw [e] at e1; cases e1; exact .flat rfl
theorem scOnce : FnScope ["thing", "many"] ["thing", "many"] (defScope sOnce) := ⟨rfl, rfl, rfl, by decide +kernel, rfl, by decide +kernel, by decide +kernel⟩
theorem ndk : (["number"] : List Str).Nodup := by decide +kernel
theorem d_once (T : Txt K mg) (S : Src K mg "is_each_once" sOnce ["thing", "many"]) (DI : Def P w K mg base 1 "is_whole" ["thing"] spWholeI) : Def P w K mg base 2 "is_each_once" ["thing", "many"] spOnce := by
  refine S.def scOnce (fun vs H Q E h => ?_) (fun f cdv A outer s H vs Q E hr h => ?_)
  · obtain ⟨_, _, _, _, rfl, _⟩ := h; rfl
  · obtain ⟨kd, a, m, ord, rfl, ha, h20, pm, q⟩ := h
    have ol : ord.length = m := by rw [pm.length_eq, ups_len]; omega
    refine ⟨_, pss_cons (ps_if (PW.pt (pw_or (pt_not (pt_val (pe_callB call_isTsF (by rfl) T.isi boot_isi (pa_cons (pv 0) (pa_cons (pe_tup (pa_cons (pe_bltn (v := .ty "list") rfl T.list boot_list' rfl) (pa_cons (pe_bltn (v := .ty "tuple") rfl T.tuple boot_tuple' rfl) pa_nil))) pa_nil)))))
        (pw_or1 (pt_not (pt_val (pe_callB (call_all rfl) (by rfl) T.all boot_all' (pa_cons (pe_comp (N' := ["number"]) (fr := [none]) (compOk_of (by rfl)) rfl (pi_seqK K kd (pv 0))
        (fun _ _ _ _ => pg_name (i := 0) ndk rfl (Or.inl rfl) (Or.inr rfl)) (fun _ _ _ _ => pifs_nil) (fun _ _ _ _ => pe_def DI hr rfl (pa_cons (pv 0) pa_nil))) pa_nil))))))) pss_never pss_nil)
      (pss_one (ps_ret (pe_cmpR (op_eqSK K (units66 hr)) (pe_callB (call_sortedK kd) (by rfl) T.sorted boot_sorted' (pa_cons (pv 0) pa_nil)) (pe_callTy (call_list_rng rfl) rfl T.list boot_list' (pa_cons (pe_callTy call_range1 rfl T.range boot_range' (pa_cons (pv 1) pa_nil)) pa_nil)) (nomark _)))), ?_⟩
    refine ⟨_, rfl, by show 2 <= sizeLine; decide, fun p1 hp1 => ?_⟩
    have s1 := Same.new (o := HO.tup [V.ty "list", V.ty "tuple"]) hp1
    have h1 : (upd H p1 (.tup [V.ty "list", V.ty "tuple"])) p1 = some (.tup [V.ty "list", V.ty "tuple"]) := upd_same
    generalize upd H p1 (.tup [V.ty "list", V.ty "tuple"]) = H1 at s1 h1 ⊢
    have ha1 := ha.same s1
    refine ⟨a, p1, _, ord.map V.int, _, true, rfl, SqT.of h1, ?_, fun us r => kit2 K r kd, _, rfl, iteF ?_⟩
    · cases kd with
      | l => exact .inl ⟨ha1, rfl⟩
      | t => exact .inr ⟨ha1, rfl⟩
    refine ⟨_, rfl, a, rfl, ⟨_, ha1.sq⟩, comp_seq (k := kd) (a := a) (xs := ord.map V.int) (fun σ => ∃ v, σ = [v]) (fun i ys H2 => Same H1 H2 /\ ys = (List.replicate i true).map V.bl) ⟨_, rfl⟩ ⟨Same.refl _, rfl⟩ (by rw [List.length_map]; exact ten_line (by omega)) (fun i ys H2 _ z => (ha1.same z.1).sq) ?_ ?_⟩
    · rintro i x ys σ H2 N hx ⟨u, rfl⟩ ⟨s2, rfl⟩ hN
      rw [List.getElem?_map] at hx
      obtain ⟨k, ek, rfl⟩ : ∃ k, ord[i]? = some k /\ V.int k = x := by
        cases e : ord[i]? with
        | none => rw [e] at hx; cases hx
        | some k => rw [e] at hx; exact ⟨k, rfl, Option.some.inj hx⟩
      dsimp only [gName, List.set]
      refine yesT ⟨_, rfl, k, rfl, ?_⟩
      refine hN _ _ _ ⟨_, rfl⟩ ⟨s2, ?_⟩ (by simp)
      rw [List.replicate_succ', List.map_append]
      rfl
    · rintro ys H2 ⟨s2, rfl⟩ p2 hp2
      have s3 := Same.new (o := HO.lst ((List.replicate (ord.map V.int).length true).map V.bl)) hp2
      have h3 : (upd H2 p2 (.lst ((List.replicate (ord.map V.int).length true).map V.bl))) p2 = some (.lst ((List.replicate (ord.map V.int).length true).map V.bl)) := upd_same
      generalize upd H2 p2 (.lst ((List.replicate (ord.map V.int).length true).map V.bl)) = H3 at s3 h3 ⊢
      have ha3 := ha1.same (s2.trans s3)
      have s13 := s1.trans (s2.trans s3)
      refine ⟨p2, _, rfl, SqL.of h3, _, rfl, ?_⟩
      have al : (List.replicate (ord.map V.int).length true).all id = true := by rw [List.all_eq_true]; intro b hb; exact (List.mem_replicate.mp hb).2
      rw [al]
      refine iteF ⟨_, rfl, a, ord, rfl, ha3.sq, by omega, fun l4 ms p4 u4 hl4 => ?_⟩
      have em : ms = ups m := perm_up (p4.trans pm) u4 ((ups_up _).imp fun h => by omega)
      subst em
      have s4 := Same.new (o := HO.lst ((ups m).map V.int)) hl4
      have h4 : (upd H3 l4 (.lst ((ups m).map V.int))) l4 = some (.lst ((ups m).map V.int)) := upd_same
      generalize upd H3 l4 (.lst ((ups m).map V.int)) = H4 at s4 h4 ⊢
      refine ⟨_, rfl, _, rfl, fun p hp => ⟨p, m, rfl, upd_same, by omega, fun l hl => ?_⟩⟩
      have s5 := (Same.new (o := HO.rng 0 m) hp).trans (Same.new (o := HO.lst (upN m)) hl)
      have h5 : (upd (upd H4 p (.rng 0 m)) l (.lst (upN m))) l = some (.lst ((ups m).map V.int)) := by rw [upd_same, upN_ups]
      generalize upd (upd H4 p (.rng 0 m)) l (.lst (upN m)) = H5 at s5 h5 ⊢
      exact same_lstO (SqL.of (s5 _ _ h4)) (SqL.of h5) (q _ (s13.trans (s4.trans s5)))
theorem scTold : FnScope ["web", "order"] ["web", "order"] (defScope sTold) := ⟨rfl, rfl, rfl, by decide +kernel, rfl, by decide +kernel, by decide +kernel⟩
theorem d_told (T : Txt K mg) (S : Src K mg "told_order" sTold ["web", "order"]) (DW : Def P w K mg base 1 "whole_pick" ["web"] spWPF) (DI : Def P w K mg base 2 "is_each_once" ["thing", "many"] spOnce) : Def P w K mg base 3 "told_order" ["web", "order"] (spTold K) := by
  refine S.def scTold (fun vs H Q E h => ?_) (fun f cdv A outer s H vs Q E hr h => ?_)
  · obtain ⟨_, _, _, _, _, _, rfl, _⟩ := h; rfl
  · obtain ⟨kd, wv, o, n, ps, ord, rfl, W, h8, alt, q⟩ := h
    refine ⟨_, pss_cons (ps_if (pt_cmpR op_isN (pv 1) pe_non (nomark _)) (pss_one (ps_ret (pe_def DW (hr.mono (by omega)) rfl (pa_cons (pv 0) pa_nil)))) pss_nil)
      (pss_cons (ps_if (pt_not (pt_val (pe_def DI hr rfl (pa_cons (pv 1) (pa_cons (pe_callB (call_lenK K) (by rfl) T.len PySem.boot_len (pa_cons (pe_ix (ix_tupK K) (pv 0) pe_int (fun _ _ => rfl)) pa_nil)) pa_nil))))) pss_never pss_nil)
      (pss_one (ps_ret (pe_callTy call_tupleF rfl T.tuple boot_tuple' (pa_cons (pv 1) pa_nil))))), ?_⟩
    rcases alt with ⟨rfl, rfl⟩ | ⟨a, rfl, ha, pm⟩
    · refine ⟨_, rfl, rfl, _, rfl, ?_⟩
      rw [decide_eq_true rfl]
      exact iteT ⟨_, rfl, wv, n, ps, rfl, W, h8, fun t H' s h => q t H' s h⟩
    · obtain ⟨c, d, xs, rfl, hc, hd, ht⟩ := W.ex
      have xl : xs.length = ps.length := Paired.length ht
      have i1 : atI ([.int n, .ref d] : List V) 1 = some (.ref d) := atI_nat (j := 1) rfl
      refine ⟨_, rfl, rfl, _, rfl, ?_⟩
      rw [decide_eq_false (fun z => nomatch z)]
      refine iteF ⟨_, rfl, _, rfl, c, _, _, _, rfl, rfl, SqT.of hc, i1, d, xs, rfl, .inr (SqT.of hd), kd, a, ps.length, ord, by rw [xl]; rfl, ha, by omega, pm, fun H1 s1 => ⟨_, rfl, iteF ?_⟩⟩
      have ha6 := ha.same s1
      refine ⟨_, rfl, a, ord.map V.int, rfl, ?_⟩
      cases kd with
      | l => exact .inl ⟨SqL.of ha6, fun t7 o7 oc od ht7 => q t7 _ (s1.trans (Same.new ht7)) (FzT.new oc od)⟩
      | t => exact .inr ⟨FzT.sq ha6, q a _ s1 ha6⟩
end
def ixOf : List Int -> Int -> Nat
  | [], _ => 0
  | x :: l, k => if x = k then 0 else ixOf l k + 1
theorem ix_at : ∀ {l : List Int} {k : Int}, k ∈ l -> l[ixOf l k]? = some k
  | x :: l, k, h => by
    unfold ixOf
    by_cases c : x = k
    · rw [if_pos c, c]; rfl
    · rw [if_neg c]
      exact ix_at ((List.mem_cons.mp h).resolve_left fun z => c z.symm)
theorem ix_no : ∀ {l : List Int} {k : Int} (m : Nat), m < ixOf l k -> l[m]? ≠ some k
  | [], _, m, h => by unfold ixOf at h; omega
  | x :: l, k, m, h => by
    unfold ixOf at h
    by_cases c : x = k
    · rw [if_pos c] at h; omega
    · rw [if_neg c] at h
      cases m with
      | zero => intro z; exact c (Option.some.inj z)
      | succ m => exact ix_no m (by omega)
theorem cut_pre (xs : List V) {j : Nat} : cutV xs none (some (j : Int)) = xs.take j := by
  unfold cutV
  rw [show HT.sIx xs.length 0 none = 0 from rfl, HT.sIx_nat]
  rw [List.drop_zero, Nat.sub_zero]
  by_cases h : j <= xs.length
  · rw [Nat.min_eq_left h]
  · rw [Nat.min_eq_right (by omega), List.take_length, List.take_of_length_le (by omega)]
theorem in_ints (c : Int) : ∀ ties : List Int, inV (.int c) (ties.map V.int) = decide (c ∈ ties)
  | [] => rfl
  | x :: l => by
    have ih := in_ints c l
    unfold inV at ih ⊢
    rw [List.map_cons, List.any_cons, ih]
    show (x == c || decide (c ∈ l)) = decide (c ∈ x :: l)
    rw [Bool.eq_iff_iff]
    simp only [Bool.or_eq_true, beq_iff_eq, decide_eq_true_iff, List.mem_cons]
    exact ⟨fun h => h.imp Eq.symm id, fun h => h.imp Eq.symm id⟩
theorem all_flat (l : List Int) : (l.map V.int).all flatV = true := by
  rw [List.all_eq_true]
  intro x hx
  obtain ⟨_, _, rfl⟩ := List.mem_map.mp hx
  rfl
def dropG (t : List Int) (g : Int) : List Int := t.filter fun k => decide (k ≠ g)
def apart (hs : List Int) (p : Int × Int) : Bool := !decide (at0 hs p.1 = at0 hs p.2)
def acB (n : Int) (ps : List (Int × Int)) (t : List Int) (g c : Int) : Bool := apart (hdF ps (ups n) (dropG t g)) (tieN ps c)
def swOf (n : Int) (ps : List (Int × Int)) (t : List Int) (g : Int) : List (Int × Int) := ((ups ps.length).filter (acB n ps t g)).map fun c => (g, c)
def swP (n : Int) (ps : List (Int × Int)) (t : List Int) : List (Int × Int) := t.flatMap (swOf n ps t)
def spAcross (K : W.Frag) : Sp := fun vs H Q _ => ∃ (wv : V) (hl : Addr) (n : Int) (ps : List (Int × Int)) (hs : List Int) (k : Int), vs = [wv, .ref hl, .int k] /\ WebAt H wv n ps /\ H hl = some (.lst (hs.map V.int)) /\ (hs.length : Int) = n /\ (∀ p ∈ ps, InN n p) /\ (0 <= k /\ k < ps.length) /\ Q (.bl (apart hs (tieN ps k))) H
def spSwaps (K : W.Frag) : Sp := fun vs H Q _ => ∃ (wv : V) (tr : Addr) (n : Int) (ps : List (Int × Int)) (t : List Int), vs = [wv, .ref tr] /\ WebAt H wv n ps /\ WebOk n ps /\ SqT K H tr (t.map V.int) /\ Ks ps.length t /\ t.length <= 8 /\
  ∀ g zs H', Same H H' -> H' g = some (.lst zs) -> Paired (TieAt H') zs (swP n ps t) -> Q (.ref g) H'
def spFirst (K : W.Frag) : Sp := fun vs H Q _ => ∃ (ta tl : Addr) (ord ties : List Int) (k : Int), vs = [.ref ta, .int k, .ref tl] /\ FzT H ta (ord.map V.int) /\ H tl = some (.lst (ties.map V.int)) /\ k ∈ ord /\ ord.length <= 8 /\
  ∀ H', Same H H' -> Q (.bl (!((ord.take (ixOf ord k)).any fun c => decide (c ∈ ties)))) H'
def spIsS (K : W.Frag) (f : Int × Int -> Int) (g : Int × Int -> Int) : Sp := fun vs H Q _ => ∃ (ta sl : Addr) (ord : List Int) (k : Int) (zs : List V) (S : List (Int × Int)), vs = [.ref ta, .ref sl, .int k] /\ FzT H ta (ord.map V.int) /\ H sl = some (.lst zs) /\ Paired (TieAt H) zs S /\ S.length <= 64 /\ k ∈ ord /\ ord.length <= 8 /\
  ∀ H', Same H H' -> Q (.bl (!((ord.take (ixOf ord k)).any fun c => decide (c ∈ (S.filter fun p => decide (f p = k)).map g)))) H'
theorem sw_len (n : Int) (ps : List (Int × Int)) (t : List Int) (h8 : ps.length <= 8) (g : Int) : (swOf n ps t g).length <= 8 := by
  unfold swOf
  rw [List.length_map]
  have := List.length_filter_le (acB n ps t g) (ups ps.length)
  rw [ups_len] at this
  omega
theorem flat8 {α β : Type} (f : α -> List β) (h : ∀ x, (f x).length <= 8) : ∀ l : List α, (l.flatMap f).length <= 8 * l.length
  | [] => by simp
  | x :: l => by
    rw [List.flatMap_cons, List.length_append, List.length_cons]
    have := h x
    have := flat8 f h l
    omega
theorem ties_putl {H : Hp} {g : Addr} {o : HO} {zs ys : List V} {ps : List (Int × Int)} (h : Paired (TieAt H) ys ps) (hg : H g = some (.lst zs)) : Paired (TieAt (upd H g o)) ys ps :=
  L2.Paired.mapP h fun _ _ ⟨a, e1, e2⟩ => ⟨a, e1, by rw [upd_ne (ne_of e2 hg (fun z => nomatch z))]; exact e2⟩
section
variable {P : Program} {w : World} {K : W.Frag} {mg : Str -> Option Value} {base : Heap}
theorem scAcross : FnScope ["web", "heads", "k", "tie"] ["web", "heads", "k"] (defScope sAcross) := ⟨rfl, rfl, rfl, by decide +kernel, rfl, by decide +kernel, by decide +kernel⟩
theorem d_across (S : Src K mg "leads_across" sAcross ["web", "heads", "k"]) : Def P w K mg base 1 "leads_across" ["web", "heads", "k"] (spAcross K) := by
  refine S.def scAcross (fun vs H Q E h => ?_) (fun f cdv A outer s H vs Q E hr h => ?_)
  · obtain ⟨_, _, _, _, _, _, rfl, _⟩ := h; rfl
  · obtain ⟨wv, hl, n, ps, hs, k, rfl, W, hh, hn, hb, ⟨k0, kl⟩, q⟩ := h
    obtain ⟨c, d, xs, rfl, hc, hd, ht⟩ := W.ex
    refine ⟨_, pss_cons (ps_set (i := 3) scAcross.nd rfl (Or.inl rfl) (pe_ix (ix_tupK K) (pe_ix (ix_tupK K) (pv 0) pe_int (fun _ _ => rfl)) (pv 2) (fun _ _ => rfl)))
      (pss_one (ps_ret (pe_cmpR op_ne (pe_ix (ix_listK K) (pv 1) (pe_ix (ix_tupK K) (pv 3) pe_int (fun _ _ => rfl)) (fun _ _ => rfl)) (pe_ix (ix_listK K) (pv 1) (pe_ix (ix_tupK K) (pv 3) pe_int (fun _ _ => rfl)) (fun _ _ => rfl)) (nomark _)))), ?_⟩
    obtain ⟨tc, et, htc⟩ := at_tie ht k0 kl
    obtain ⟨b1, b2, b3, b4⟩ := tieN_in hb k0 kl
    have i1 : atI ([.int n, .ref d] : List V) 1 = some (.ref d) := atI_nat (j := 1) rfl
    have t0 : atI ([.int (tieN ps k).1, .int (tieN ps k).2] : List V) 0 = some (.int (tieN ps k).1) := atI_nat (j := 0) rfl
    have t1 : atI ([.int (tieN ps k).1, .int (tieN ps k).2] : List V) 1 = some (.int (tieN ps k).2) := atI_nat (j := 1) rfl
    have a0 := at_int (l := hs) (i := (tieN ps k).1) b1 (by omega)
    have a1 := at_int (l := hs) (i := (tieN ps k).2) b3 (by omega)
    refine ⟨_, rfl, c, _, _, _, rfl, rfl, SqT.of hc, i1, _, rfl, d, _, _, _, rfl, rfl, SqT.of hd, et, ?_⟩
    refine ⟨_, rfl, _, rfl, tc, _, _, _, rfl, rfl, SqT.of htc, t0, hl, _, _, _, rfl, rfl, SqL.of hh, a0, _, rfl, _, rfl, tc, _, _, _, rfl, rfl, SqT.of htc, t1, hl, _, _, _, rfl, rfl, SqL.of hh, a1, rfl, ?_⟩
    rw [dec_int]
    exact q
theorem scFirst : FnScope ["order", "k", "ties"] ["order", "k", "ties"] (defScope sFirst) := ⟨rfl, rfl, rfl, by decide +kernel, rfl, by decide +kernel, by decide +kernel⟩
theorem ndtt : (["tie", "ties"] : List Str).Nodup := by decide +kernel
theorem boot_any' : bootBuiltins "any" = some (.builtin "any") := by first | rfl | decide +kernel
theorem d_first (hany : mg "any" = none) (S : Src K mg "is_first" sFirst ["order", "k", "ties"]) : Def P w K mg base 1 "is_first" ["order", "k", "ties"] (spFirst K) := by
  refine S.def scFirst (fun vs H Q E h => ?_) (fun f cdv A outer s H vs Q E hr h => ?_)
  · obtain ⟨_, _, _, _, _, rfl, _⟩ := h; rfl
  · obtain ⟨ta, tl, ord, ties, k, rfl, hta, htl, hk, ol, q⟩ := h
    refine ⟨_, pss_one (ps_ret (pe_not (pe_callB (call_any rfl) (by rfl) hany boot_any' (pa_cons (pe_comp (N' := ["tie", "ties"]) (fr := [none, some 2]) (compOk_of (by rfl)) rfl (pi_seqK K .t (pe_slice (sl_tupK K) (pv 0) po_none (po_some (pe_bmF PySem.F.plainAttrs_tuple PySem.F.slot_tuple_index PySem.F.type_tuple_index mt_tindex (pv 0) (pa_cons (pv 1) pa_nil)))))
      (fun _ _ _ _ => pg_name (i := 0) ndtt rfl (Or.inl rfl) (Or.inr rfl)) (fun _ _ _ _ => pifs_nil) (fun _ _ _ _ => pe_cmpR (r := rIn K false) op_in_seq (pv 0) (pv 1) rfl)) pa_nil)))), ?_⟩
    have jl : ixOf ord k < ord.length := (List.getElem?_eq_some_iff.mp (ix_at hk)).1
    refine ⟨_, rfl, _, rfl, ⟨ta, _, rfl, hta⟩, _, rfl, ta, ord, k, ixOf ord k, rfl, rfl, hta.sq, ix_at hk, fun m hm => ix_no m hm, _, rfl, ta, _, rfl, hta.sq, ?_, fun p hp => ?_⟩
    · rintro ⟨_, z⟩
      rw [HT.sIx_nat, List.length_map] at z
      omega
    rw [cut_pre, <- List.map_take]
    have s1 := Same.new (o := HO.tup ((ord.take (ixOf ord k)).map V.int)) hp
    have h1 : (upd H p (.tup ((ord.take (ixOf ord k)).map V.int))) p = some (.tup ((ord.take (ixOf ord k)).map V.int)) := upd_same
    generalize upd H p (.tup ((ord.take (ixOf ord k)).map V.int)) = H1 at s1 h1 ⊢
    have al0 : (ord.take (ixOf ord k)).length <= 8 := by rw [List.length_take]; omega
    generalize ord.take (ixOf ord k) = ah at h1 q al0
    have al : ah.length <= 8 := al0
    refine ⟨p, rfl, ⟨_, SqT.of h1⟩, comp_seq (k := .t) (a := p) (xs := ah.map V.int) (fun σ => ∃ v, σ = [v, some (.ref tl)]) (fun i ys H2 => H2 = H1 /\ ys = ((ah.take i).map fun c => decide (c ∈ ties)).map V.bl) ⟨_, rfl⟩ ⟨rfl, rfl⟩ (by rw [List.length_map]; exact ten_line (by omega)) (fun i ys H2 _ z => by rw [z.1]; exact SqT.of h1) ?_ ?_⟩
    · rintro i x ys σ H2 N hx ⟨u, rfl⟩ ⟨rfl, rfl⟩ hN
      obtain ⟨c, ec, rfl⟩ := get_int' hx
      dsimp only [gName, List.set]
      refine yesT ⟨_, rfl, _, rfl, tl, ties.map V.int, rfl, .inl (SqL.of (s1 _ _ htl)), rfl, all_flat _, ?_⟩
      rw [if_neg (by decide), in_ints]
      refine hN _ _ _ ⟨_, rfl⟩ ⟨rfl, ?_⟩ (by simp)
      rw [take_succ_of ec, List.map_append, List.map_append]
      rfl
    · rintro ys H2 ⟨rfl, rfl⟩ p2 hp2
      rw [List.length_map, List.take_length]
      refine ⟨p2, _, rfl, SqL.of upd_same, ?_⟩
      have e : (ah.map fun c => decide (c ∈ ties)).any id = ah.any fun c => decide (c ∈ ties) := by rw [List.any_map]; rfl
      rw [e]
      exact ⟨_, rfl, q _ (s1.trans (Same.new hp2))⟩
theorem scIsIn : FnScope ["order", "swaps", "k"] ["order", "swaps", "k"] (defScope sIsIn) := ⟨rfl, rfl, rfl, by decide +kernel, rfl, by decide +kernel, by decide +kernel⟩
theorem scIsOut : FnScope ["order", "swaps", "k"] ["order", "swaps", "k"] (defScope sIsOut) := ⟨rfl, rfl, rfl, by decide +kernel, rfl, by decide +kernel, by decide +kernel⟩
theorem ndhok : (["held", "other", "k"] : List Str).Nodup := by decide +kernel
theorem line64 {n : Nat} (h : n <= 64) : n < sizeLine := Nat.lt_of_le_of_lt h (by decide)
theorem d_isin (S : Src K mg "is_inner" sIsIn ["order", "swaps", "k"]) (DF : Def P w K mg base 1 "is_first" ["order", "k", "ties"] (spFirst K)) : Def P w K mg base 2 "is_inner" ["order", "swaps", "k"] (spIsS K (·.1) (·.2)) := by
  refine S.def scIsIn (fun vs H Q E h => ?_) (fun f cdv A outer s H vs Q E hr h => ?_)
  · obtain ⟨_, _, _, _, _, _, rfl, _⟩ := h; rfl
  · obtain ⟨ta, sl, ord, k, zs, SW, rfl, hta, hsl, hz, sl64, hk, ol, q⟩ := h
    have zl : zs.length = SW.length := Paired.length hz
    refine ⟨_, pss_one (ps_ret (pe_def DF hr rfl (pa_cons (pv 0) (pa_cons (pv 2) (pa_cons (pe_comp (N' := ["held", "other", "k"]) (fr := [none, none, some 2]) (compOk_of (by rfl)) rfl (pi_seqK K .l (pv 1))
      (g := gTup K 2 (gCons (gName 0) (gCons (gName 1) gNil))) (fun _ _ _ _ => pg_tupK K 2 rfl (pgs_cons (pg_name (i := 0) ndhok rfl (Or.inl rfl) (Or.inr rfl)) (pgs_cons (pg_name (i := 1) ndhok rfl (Or.inl rfl) (Or.inr rfl)) pgs_nil)))
      (fun _ _ _ _ => pifs_one (pt_cmpR op_eq (pv 0) (pv 2) (nomark _))) (fun _ _ _ _ => pv 1)) pa_nil))))), ?_⟩
    refine ⟨_, rfl, _, rfl, _, rfl, sl, rfl, ⟨_, SqL.of hsl⟩, comp_seq (k := .l) (a := sl) (xs := zs) (fun σ => ∃ u v, σ = [u, v, some (.int k)]) (fun i ys H2 => H2 = H /\ ys = (((SW.take i).filter fun p => decide (p.1 = k)).map (·.2)).map V.int) ⟨_, _, rfl⟩ ⟨rfl, rfl⟩ (line64 (by omega)) (fun i ys H2 _ z => by rw [z.1]; exact SqL.of hsl) ?_ ?_⟩
    · rintro i x ys σ H2 N hx ⟨u, v, rfl⟩ ⟨rfl, rfl⟩ hN
      obtain ⟨p, ep, b, rfl, hb⟩ := Paired.at hz hx
      refine ⟨b, _, rfl, SqT.of hb, rfl, _, _, rfl, _, _, rfl, rfl, ?_⟩
      dsimp only [gName, List.set]
      refine ⟨_, rfl, _, rfl, rfl, _, rfl, ?_⟩
      rw [dec_int]
      refine ite2 (fun z => ⟨_, rfl, ?_⟩) (fun z => ?_)
      · refine hN _ _ _ ⟨_, _, rfl⟩ ⟨rfl, ?_⟩ (by simp)
        rw [filt_take _ ep, z]
        simp
      · refine hN _ _ _ ⟨_, _, rfl⟩ ⟨rfl, ?_⟩ (by simp)
        rw [filt_take _ ep, Bool.eq_false_iff.mpr z]
        simp
    · rintro ys H2 ⟨rfl, rfl⟩ p2 hp2
      rw [zl, List.take_length]
      have s2 := Same.new (o := HO.lst (((SW.filter fun p => decide (p.1 = k)).map (·.2)).map V.int)) hp2
      exact ⟨ta, p2, ord, _, k, rfl, hta.same s2, upd_same, hk, ol, fun H3 s3 => q H3 (s2.trans s3)⟩
theorem d_isout (S : Src K mg "is_outer" sIsOut ["order", "swaps", "k"]) (DF : Def P w K mg base 1 "is_first" ["order", "k", "ties"] (spFirst K)) : Def P w K mg base 2 "is_outer" ["order", "swaps", "k"] (spIsS K (·.2) (·.1)) := by
  refine S.def scIsOut (fun vs H Q E h => ?_) (fun f cdv A outer s H vs Q E hr h => ?_)
  · obtain ⟨_, _, _, _, _, _, rfl, _⟩ := h; rfl
  · obtain ⟨ta, sl, ord, k, zs, SW, rfl, hta, hsl, hz, sl64, hk, ol, q⟩ := h
    have zl : zs.length = SW.length := Paired.length hz
    refine ⟨_, pss_one (ps_ret (pe_def DF hr rfl (pa_cons (pv 0) (pa_cons (pv 2) (pa_cons (pe_comp (N' := ["held", "other", "k"]) (fr := [none, none, some 2]) (compOk_of (by rfl)) rfl (pi_seqK K .l (pv 1))
      (g := gTup K 2 (gCons (gName 0) (gCons (gName 1) gNil))) (fun _ _ _ _ => pg_tupK K 2 rfl (pgs_cons (pg_name (i := 0) ndhok rfl (Or.inl rfl) (Or.inr rfl)) (pgs_cons (pg_name (i := 1) ndhok rfl (Or.inl rfl) (Or.inr rfl)) pgs_nil)))
      (fun _ _ _ _ => pifs_one (pt_cmpR op_eq (pv 1) (pv 2) (nomark _))) (fun _ _ _ _ => pv 0)) pa_nil))))), ?_⟩
    refine ⟨_, rfl, _, rfl, _, rfl, sl, rfl, ⟨_, SqL.of hsl⟩, comp_seq (k := .l) (a := sl) (xs := zs) (fun σ => ∃ u v, σ = [u, v, some (.int k)]) (fun i ys H2 => H2 = H /\ ys = (((SW.take i).filter fun p => decide (p.2 = k)).map (·.1)).map V.int) ⟨_, _, rfl⟩ ⟨rfl, rfl⟩ (line64 (by omega)) (fun i ys H2 _ z => by rw [z.1]; exact SqL.of hsl) ?_ ?_⟩
    · rintro i x ys σ H2 N hx ⟨u, v, rfl⟩ ⟨rfl, rfl⟩ hN
      obtain ⟨p, ep, b, rfl, hb⟩ := Paired.at hz hx
      refine ⟨b, _, rfl, SqT.of hb, rfl, _, _, rfl, _, _, rfl, rfl, ?_⟩
      dsimp only [gName, List.set]
      refine ⟨_, rfl, _, rfl, rfl, _, rfl, ?_⟩
      rw [dec_int]
      refine ite2 (fun z => ⟨_, rfl, ?_⟩) (fun z => ?_)
      · refine hN _ _ _ ⟨_, _, rfl⟩ ⟨rfl, ?_⟩ (by simp)
        rw [filt_take _ ep, z]
        simp
      · refine hN _ _ _ ⟨_, _, rfl⟩ ⟨rfl, ?_⟩ (by simp)
        rw [filt_take _ ep, Bool.eq_false_iff.mpr z]
        simp
    · rintro ys H2 ⟨rfl, rfl⟩ p2 hp2
      rw [zl, List.take_length]
      have s2 := Same.new (o := HO.lst (((SW.filter fun p => decide (p.2 = k)).map (·.1)).map V.int)) hp2
      exact ⟨ta, p2, ord, _, k, rfl, hta.same s2, upd_same, hk, ol, fun H3 s3 => q H3 (s2.trans s3)⟩
theorem scSwaps : FnScope ["web", "tree", "swaps", "held", "heads"] ["web", "tree"] (defScope sSwaps) := ⟨rfl, rfl, rfl, by decide +kernel, rfl, by decide +kernel, by decide +kernel⟩
theorem ndkh : (["k", "held"] : List Str).Nodup := by decide +kernel
theorem ndohhw : (["other", "heads", "held", "web"] : List Str).Nodup := by decide +kernel
theorem d_swaps (T : Txt K mg) (S : Src K mg "swaps_of" sSwaps ["web", "tree"]) (DH : Def P w K mg base 1 "heads_of" ["web", "pick"] (spHeads K)) (DW : Def P w K mg base 1 "whole_pick" ["web"] spWPF) (DA : Def P w K mg base 1 "leads_across" ["web", "heads", "k"] (spAcross K)) : Def P w K mg base 2 "swaps_of" ["web", "tree"] (spSwaps K) := by
  refine S.def scSwaps (fun vs H Q E h => ?_) (fun f cdv A outer s H vs Q E hr h => ?_)
  · obtain ⟨_, _, _, _, _, rfl, _⟩ := h; rfl
  · obtain ⟨wv, tr, n, ps, t, rfl, W, ok, htr, ks, tl, q⟩ := h
    obtain ⟨⟨n1, n9⟩, hb, h8⟩ := id ok
    refine ⟨_, pss_cons (ps_set (i := 2) scSwaps.nd rfl (Or.inl rfl) (pe_lst pa_nil))
      (pss_cons (ps_for PassesOwn.never rfl (pi_seqK K .t (pv 1)) (pg_name (i := 3) scSwaps.nd rfl (Or.inr rfl))
        (pss_cons (ps_set (i := 4) scSwaps.nd rfl (Or.inr rfl) (pe_def DH hr rfl (pa_cons (pv 0) (pa_cons (pe_callTy (call_tuple_ofK K) rfl T.tuple boot_tuple' (pa_cons (pe_comp (N' := ["k", "held"]) (fr := [none, some 3]) (compOk_of (by rfl)) rfl (pi_seqK K .t (pv 1))
          (fun _ _ _ _ => pg_name (i := 0) ndkh rfl (Or.inl rfl) (Or.inr rfl)) (fun _ _ _ _ => pifs_one (pt_cmpR op_ne (pv 0) (pv 1) (nomark _))) (fun _ _ _ _ => pv 0)) pa_nil)) pa_nil))))
        (pss_one (ps_expr (pe_bm PySem.F.plainAttrs_list PySem.F.slot_list_extend PySem.F.type_list_extend mt_extend (pv 2) (pa_cons (pe_comp (N' := ["other", "heads", "held", "web"]) (fr := [none, some 4, some 3, some 0]) (compOk_of (by rfl)) rfl (pi_seqK K .t (pe_def DW hr rfl (pa_cons (pv 0) pa_nil)))
          (fun _ _ _ _ => pg_name (i := 0) ndohhw rfl (Or.inl rfl) (Or.inr rfl)) (fun _ _ _ _ => pifs_one (pt_val (pe_def DA hr rfl (pa_cons (pv 3) (pa_cons (pv 1) (pa_cons (pv 0) pa_nil)))))) (fun _ _ _ _ => pe_tup (pa_cons (pv 2) (pa_cons (pv 0) pa_nil)))) pa_nil))))))
      (pss_one (ps_ret (pv 2)))), ?_⟩
    refine ⟨Nat.zero_le _, fun g hg => ?_⟩
    have s0 := Same.new (o := HO.lst []) hg
    have g0 : (upd H g (.lst [])) g = some (.lst []) := upd_same
    generalize upd H g (.lst []) = H1 at s0 g0 ⊢
    refine ⟨_, rfl, tr, rfl, ⟨_, s0.tup htr⟩, for_seq (k := .t) (K := K) (a := tr) (xs := t.map V.int) (fun i σ H2 => (∃ u v, σ = [some wv, some (.ref tr), some (.ref g), u, v]) /\ Same H H2 /\ ∃ zs, H2 g = some (.lst zs) /\ Paired (TieAt H2) zs ((t.take i).flatMap (swOf n ps t)))
      ⟨⟨_, _, rfl⟩, s0, [], g0, .nil⟩ (fun i σ H2 _ z => z.2.1.tup htr) ?_ ?_⟩
    · rintro i x σ H2 hx ⟨⟨u, v, rfl⟩, sm, zs, hz, pz⟩
      obtain ⟨g1, eg1, rfl⟩ := get_int' hx
      dsimp only [gName, List.set]
      refine ⟨_, rfl, _, rfl, tr, rfl, ⟨_, sm.tup htr⟩, comp_seq (k := .t) (a := tr) (xs := t.map V.int) (fun σ => ∃ v, σ = [v, some (.int g1)]) (fun i ys H3 => H3 = H2 /\ ys = ((t.take i).filter fun k => decide (k ≠ g1)).map V.int) ⟨_, rfl⟩ ⟨rfl, rfl⟩ (by rw [List.length_map]; exact ten_line (by omega)) (fun i ys H3 _ z => by rw [z.1]; exact sm.tup htr) ?_ ?_⟩
      · rintro i x ys σ H3 N hx ⟨u, rfl⟩ ⟨rfl, rfl⟩ hN
        obtain ⟨k, ek, rfl⟩ := get_int' hx
        dsimp only [gName, List.set]
        refine ⟨_, rfl, _, rfl, rfl, _, rfl, ?_⟩
        have e1 : (!decide (V.int k = V.int g1)) = decide (k ≠ g1) := by rw [dec_int]; simp
        rw [e1]
        refine ite2 (fun z => ⟨_, rfl, ?_⟩) (fun z => ?_)
        · refine hN _ _ _ ⟨_, rfl⟩ ⟨rfl, ?_⟩ (by simp)
          rw [filt_take _ ek, z]
          simp
        · refine hN _ _ _ ⟨_, rfl⟩ ⟨rfl, ?_⟩ (by simp)
          rw [filt_take _ ek, Bool.eq_false_iff.mpr z]
          simp
      · rintro ys H3 ⟨rfl, rfl⟩ p3 hp3
        rw [List.length_map, List.take_length]
        have ed : (t.filter fun k => decide (k ≠ g1)) = dropG t g1 := rfl
        rw [ed]
        refine ⟨p3, _, rfl, .inl ⟨SqL.of upd_same, fun t4 ht4 => ?_⟩⟩
        have s34 := (Same.new (o := HO.lst ((dropG t g1).map V.int)) hp3).trans (Same.new (o := HO.tup ((dropG t g1).map V.int)) ht4)
        have h4 : (upd (upd H3 p3 (.lst ((dropG t g1).map V.int))) t4 (.tup ((dropG t g1).map V.int))) t4 = some (.tup ((dropG t g1).map V.int)) := upd_same
        generalize upd (upd H3 p3 (.lst ((dropG t g1).map V.int))) t4 (.tup ((dropG t g1).map V.int)) = H4 at s34 h4 ⊢
        have kd : Ks ps.length (dropG t g1) := fun k hk => ks k (List.mem_filter.mp hk).1
        refine ⟨wv, t4, n, ps, dropG t g1, rfl, W.same (sm.trans s34), n1, n9, hb, SqT.of h4, kd, fun l5 H5 s5 h5 => ?_⟩
        have sm5 := (sm.trans s34).trans s5
        have hz5 := (s34.trans s5) _ _ hz
        refine ⟨_, rfl, .inl ⟨rfl, _, SqL.of hz5⟩, _, rfl, wv, n, ps, rfl, W.same sm5, h8, fun t6 H6 s6 h6 => ?_⟩
        refine ⟨t6, rfl, ⟨_, h6.sq⟩, comp_seq (k := .t) (a := t6) (xs := (ups ps.length).map V.int) (fun σ => ∃ v, σ = [v, some (.ref l5), some (.int g1), some wv]) (fun i ys H7 => Same H6 H7 /\ Paired (TieAt H7) ys ((((ups ps.length).take i).filter (acB n ps t g1)).map fun c => (g1, c))) ⟨_, rfl⟩ ⟨Same.refl _, .nil⟩ (by rw [List.length_map, ups_len]; exact ten_line (by omega)) (fun i ys H7 _ z => (h6.same z.1).sq) ?_ ?_⟩
        · rintro i x ys σ H7 N hx ⟨u, rfl⟩ ⟨s7, hy⟩ hN
          obtain ⟨c, ec, rfl⟩ := get_int' hx
          have cm := mem_ups.mp (List.mem_of_getElem? ec)
          dsimp only [gName, List.set]
          refine ⟨_, rfl, _, rfl, _, rfl, wv, l5, n, ps, hdF ps (ups n) (dropG t g1), c, rfl, W.same (sm5.trans (s6.trans s7)), s7 _ _ (s6 _ _ h5), by rw [hdF_len, ups_len]; omega, hb, ⟨cm.1, cm.2⟩, _, rfl, ?_⟩
          have eac : apart (hdF ps (ups n) (dropG t g1)) (tieN ps c) = acB n ps t g1 c := rfl
          rw [eac]
          refine ite2 (fun z => ⟨_, rfl, _, rfl, by show 2 <= sizeLine; decide, fun b hb8 => ?_⟩) (fun z => ?_)
          · have s8 := Same.new (o := HO.tup [.int g1, .int c]) hb8
            refine hN _ _ _ ⟨_, rfl⟩ ⟨s7.trans s8, ?_⟩ (by simp)
            rw [filt_take _ ec, if_pos z, List.map_append]
            exact L2.Paired.snoc (ties_same hy s8) ⟨b, rfl, upd_same⟩
          · refine hN _ _ _ ⟨_, rfl⟩ ⟨s7, ?_⟩ (by simp)
            rw [filt_take _ ec, if_neg z, List.append_nil]
            exact hy
        · rintro ys H7 ⟨s7, hy⟩ p8 hp8
          rw [List.length_map, List.take_length] at hy
          have hy : Paired (TieAt H7) ys (swOf n ps t g1) := hy
          have s8 := Same.new (o := HO.lst ys) hp8
          have hz8 := s8 _ _ (s7 _ _ (s6 _ _ hz5))
          have h8' : (upd H7 p8 (.lst ys)) p8 = some (.lst ys) := upd_same
          have hy8 := ties_same hy s8
          have pz8 := ties_same pz (s34.trans (s5.trans (s6.trans (s7.trans s8))))
          have sm8 := sm5.trans (s6.trans (s7.trans s8))
          generalize upd H7 p8 (.lst ys) = H8 at hz8 h8' hy8 pz8 sm8 ⊢
          have ly : ys.length <= 8 := by rw [Paired.length hy8]; exact sw_len n ps t h8 g1
          have lz : zs.length <= 64 := by
            have e1 := Paired.length pz8
            have e2 := flat8 (swOf n ps t) (sw_len n ps t h8) (t.take i)
            rw [List.length_take] at e2
            omega
          refine ⟨g, p8, zs, ys, rfl, rfl, hz8, h8', Nat.le_of_lt (line300 (by omega)), ?_⟩
          refine ⟨⟨_, _, rfl⟩, put_fresh sm8 hg, zs ++ ys, upd_same, ?_⟩
          rw [take_succ_of eg1, List.flatMap_append, List.flatMap_cons, List.flatMap_nil, List.append_nil]
          exact pair_app (ties_putl pz8 hz8) (ties_putl hy8 hz8)
    · rintro σ H2 ⟨⟨u, v, rfl⟩, sm, zs, hz, pz⟩
      rw [List.length_map, List.take_length] at pz
      exact ⟨_, rfl, q g zs H2 sm hz pz⟩
end
def innP (n : Int) (ps : List (Int × Int)) (t ord : List Int) : List Int := t.filter fun k => !((ord.take (ixOf ord k)).any fun c => decide (c ∈ ((swP n ps t).filter fun p => decide (p.1 = k)).map (·.2)))
def besP (ps : List (Int × Int)) (t : List Int) : List Int := (ups ps.length).filter fun k => !decide (k ∈ t)
def outP (n : Int) (ps : List (Int × Int)) (t ord : List Int) : List Int := (besP ps t).filter fun k => !((ord.take (ixOf ord k)).any fun c => decide (c ∈ ((swP n ps t).filter fun p => decide (p.2 = k)).map (·.1)))
def spTies (K : W.Frag) (f : Int -> List (Int × Int) -> List Int -> List Int -> List Int) : Sp := fun vs H Q _ => ∃ (kd : Kd) (wv o : V) (tr : Addr) (n : Int) (ps : List (Int × Int)) (t ord : List Int), vs = [wv, .ref tr, o] /\ WebAt H wv n ps /\ WebOk n ps /\ SqT K H tr (t.map V.int) /\ Ks ps.length t /\ t.length <= 8 /\ OrdAt kd H o ps.length ord /\
  ∀ g H', Same H H' -> H' g = some (.tup ((f n ps t ord).map V.int)) -> Q (.ref g) H'
section
variable {P : Program} {w : World} {K : W.Frag} {mg : Str -> Option Value} {base : Heap}
theorem scInner : FnScope ["web", "tree", "order", "told", "swaps"] ["web", "tree", "order"] (defScope sInner) := ⟨rfl, rfl, rfl, by decide +kernel, rfl, by decide +kernel, by decide +kernel⟩
theorem scOuter : FnScope ["web", "tree", "order", "told", "swaps", "beside"] ["web", "tree", "order"] (defScope sOuter) := ⟨rfl, rfl, rfl, by decide +kernel, rfl, by decide +kernel, by decide +kernel⟩
theorem ndkst : (["k", "swaps", "told"] : List Str).Nodup := by decide +kernel
theorem ndkt : (["k", "tree"] : List Str).Nodup := by decide +kernel
theorem sw64 (n : Int) (ps : List (Int × Int)) (t : List Int) (h8 : ps.length <= 8) (tl : t.length <= 8) : (swP n ps t).length <= 64 := by
  have := flat8 (swOf n ps t) (sw_len n ps t h8) t
  unfold swP
  omega
theorem d_inner (T : Txt K mg) (S : SrcD K mg "inner_ties" sInner ["web", "tree", "order"]) (DT : Def P w K mg base 3 "told_order" ["web", "order"] (spTold K)) (DS : Def P w K mg base 2 "swaps_of" ["web", "tree"] (spSwaps K)) (DI : Def P w K mg base 2 "is_inner" ["order", "swaps", "k"] (spIsS K (·.1) (·.2))) : DefD P w K mg base 4 "inner_ties" ["web", "tree", "order"] (spTies K innP) := by
  refine SrcD.defX S scInner (fun vs H Q E h => ?_) (fun f cdv A outer s H vs Q E hr h => ?_)
  · obtain ⟨_, _, _, _, _, _, _, _, rfl, _⟩ := h; rfl
  · obtain ⟨kd, wv, o, tr, n, ps, t, ord, rfl, W, ok, htr, ks, tl, ho, q⟩ := h
    have h8 := ok.2.2
    have ol : ord.length <= 8 := by rw [ho.perm.length_eq, ups_len]; omega
    refine ⟨_, pss_cons (ps_set (i := 3) scInner.nd rfl (Or.inr rfl) (pe_def DT hr rfl (pa_cons (pv 0) (pa_cons (pv 2) pa_nil))))
      (pss_cons (ps_set (i := 4) scInner.nd rfl (Or.inr rfl) (pe_def DS (hr.mono (by decide)) rfl (pa_cons (pv 0) (pa_cons (pv 1) pa_nil))))
      (pss_one (ps_ret (pe_callTy (call_tuple_ofK K) rfl T.tuple boot_tuple' (pa_cons (pe_comp (N' := ["k", "swaps", "told"]) (fr := [none, some 4, some 3]) (compOk_of (by rfl)) rfl (pi_seqK K .t (pv 1))
        (fun _ _ _ _ => pg_name (i := 0) ndkst rfl (Or.inl rfl) (Or.inr rfl)) (fun _ _ _ _ => pifs_one (pt_val (pe_def DI (hr.mono (by decide)) rfl (pa_cons (pv 2) (pa_cons (pv 1) (pa_cons (pv 0) pa_nil)))))) (fun _ _ _ _ => pv 0)) pa_nil))))), ?_⟩
    refine ⟨_, rfl, _, rfl, kd, wv, o, n, ps, ord, rfl, W, h8, ho, fun t1 H1 s1 h1 => ?_⟩
    refine ⟨_, rfl, _, rfl, wv, tr, n, ps, t, rfl, W.same s1, ok, s1.tup htr, ks, tl, fun g2 zs H2 s2 hz pz => ?_⟩
    have s12 := s1.trans s2
    have ht2 := h1.same s2
    refine ⟨_, rfl, tr, rfl, ⟨_, s12.tup htr⟩, comp_seq (k := .t) (a := tr) (xs := t.map V.int) (fun σ => ∃ v, σ = [v, some (.ref g2), some (.ref t1)]) (fun i ys H3 => Same H2 H3 /\ ys = ((t.take i).filter fun k => !((ord.take (ixOf ord k)).any fun c => decide (c ∈ ((swP n ps t).filter fun p => decide (p.1 = k)).map (·.2)))).map V.int) ⟨_, rfl⟩ ⟨Same.refl _, rfl⟩ (by rw [List.length_map]; exact ten_line (by omega)) (fun i ys H3 _ z => (s12.trans z.1).tup htr) ?_ ?_⟩
    · rintro i x ys σ H3 N hx ⟨u, rfl⟩ ⟨s3, rfl⟩ hN
      obtain ⟨k, ek, rfl⟩ := get_int' hx
      have km := ks k (List.mem_of_getElem? ek)
      have ko : k ∈ ord := ho.perm.mem_iff.mpr (mem_ups.mpr km)
      dsimp only [gName, List.set]
      refine ⟨_, rfl, _, rfl, _, rfl, t1, g2, ord, k, zs, swP n ps t, rfl, ht2.same s3, s3 _ _ hz, ties_same pz s3, sw64 n ps t h8 tl, ko, ol, fun H4 s4 => ⟨_, rfl, ?_⟩⟩
      refine ite2 (fun z => ⟨_, rfl, ?_⟩) (fun z => ?_)
      · refine hN _ _ _ ⟨_, rfl⟩ ⟨s3.trans s4, ?_⟩ (by simp)
        rw [filt_take _ ek, if_pos z, List.map_append]
        rfl
      · refine hN _ _ _ ⟨_, rfl⟩ ⟨s3.trans s4, ?_⟩ (by simp)
        rw [filt_take _ ek, if_neg z, List.append_nil]
    · rintro ys H3 ⟨s3, rfl⟩ p4 hp4
      rw [List.length_map, List.take_length]
      refine ⟨p4, _, rfl, .inl ⟨SqL.of upd_same, fun t5 ht5 => ?_⟩⟩
      exact q t5 _ (s12.trans (s3.trans ((Same.new hp4).trans (Same.new ht5)))) upd_same
theorem d_outer (T : Txt K mg) (S : SrcD K mg "outer_ties" sOuter ["web", "tree", "order"]) (DT : Def P w K mg base 3 "told_order" ["web", "order"] (spTold K)) (DS : Def P w K mg base 2 "swaps_of" ["web", "tree"] (spSwaps K)) (DW : Def P w K mg base 1 "whole_pick" ["web"] spWPF) (DI : Def P w K mg base 2 "is_outer" ["order", "swaps", "k"] (spIsS K (·.2) (·.1))) : DefD P w K mg base 4 "outer_ties" ["web", "tree", "order"] (spTies K outP) := by
  refine SrcD.defX S scOuter (fun vs H Q E h => ?_) (fun f cdv A outer s H vs Q E hr h => ?_)
  · obtain ⟨_, _, _, _, _, _, _, _, rfl, _⟩ := h; rfl
  · obtain ⟨kd, wv, o, tr, n, ps, t, ord, rfl, W, ok, htr, ks, tl, ho, q⟩ := h
    have h8 := ok.2.2
    have hr1 : Room 1 _ := hr.mono (by decide)
    have ol : ord.length <= 8 := by rw [ho.perm.length_eq, ups_len]; omega
    refine ⟨_, pss_cons (ps_set (i := 3) scOuter.nd rfl (Or.inr rfl) (pe_def DT hr rfl (pa_cons (pv 0) (pa_cons (pv 2) pa_nil))))
      (pss_cons (ps_set (i := 4) scOuter.nd rfl (Or.inr rfl) (pe_def DS (hr.mono (by decide)) rfl (pa_cons (pv 0) (pa_cons (pv 1) pa_nil))))
      (pss_cons (ps_setComp (i := 5) scOuter.nd rfl (Or.inl rfl) (N' := ["k", "tree"]) (fr := [none, some 1]) (compOk_of (by rfl)) rfl (pi_seqK K .t (pe_def DW hr1 rfl (pa_cons (pv 0) pa_nil)))
        (fun _ _ _ _ => pg_name (i := 0) ndkt rfl (Or.inl rfl) (Or.inr rfl)) (fun _ _ _ _ => pifs_one (pt_cmpR (r := rIn K true) op_notIn_seq (pv 0) (pv 1) rfl)) (fun _ _ _ _ => pv 0))
      (pss_one (ps_ret (pe_callTy (call_tuple_ofK K) rfl T.tuple boot_tuple' (pa_cons (pe_comp (N' := ["k", "swaps", "told"]) (fr := [none, some 4, some 3]) (compOk_of (by rfl)) rfl (pi_seqK K .l (pv 5))
        (fun _ _ _ _ => pg_name (i := 0) ndkst rfl (Or.inl rfl) (Or.inr rfl)) (fun _ _ _ _ => pifs_one (pt_val (pe_def DI (hr.mono (by decide)) rfl (pa_cons (pv 2) (pa_cons (pv 1) (pa_cons (pv 0) pa_nil)))))) (fun _ _ _ _ => pv 0)) pa_nil)))))), ?_⟩
    refine ⟨_, rfl, _, rfl, kd, wv, o, n, ps, ord, rfl, W, h8, ho, fun t1 H1 s1 h1 => ?_⟩
    refine ⟨_, rfl, _, rfl, wv, tr, n, ps, t, rfl, W.same s1, ok, s1.tup htr, ks, tl, fun g2 zs H2 s2 hz pz => ?_⟩
    have s12 := s1.trans s2
    have ht2 := h1.same s2
    refine ⟨_, rfl, wv, n, ps, rfl, W.same s12, h8, fun t3 H3 s3 h3 => ?_⟩
    have s13 := s12.trans s3
    refine ⟨t3, rfl, ⟨_, h3.sq⟩, comp_seq (k := .t) (a := t3) (xs := (ups ps.length).map V.int) (fun σ => ∃ v, σ = [v, some (.ref tr)]) (fun i ys H4 => H4 = H3 /\ ys = (((ups ps.length).take i).filter fun k => !decide (k ∈ t)).map V.int) ⟨_, rfl⟩ ⟨rfl, rfl⟩ (by rw [List.length_map, ups_len]; exact ten_line (by omega)) (fun i ys H4 _ z => by rw [z.1]; exact h3.sq) ?_ ?_⟩
    · rintro i x ys σ H4 N hx ⟨u, rfl⟩ ⟨rfl, rfl⟩ hN
      obtain ⟨k, ek, rfl⟩ := get_int' hx
      dsimp only [gName, List.set]
      refine ⟨_, rfl, _, rfl, tr, t.map V.int, rfl, .inr (s13.tup htr), rfl, all_flat _, _, rfl, ?_⟩
      rw [if_pos rfl, in_ints]
      refine ite2 (fun z => ⟨_, rfl, ?_⟩) (fun z => ?_)
      · refine hN _ _ _ ⟨_, rfl⟩ ⟨rfl, ?_⟩ (by simp)
        rw [filt_take _ ek, if_pos z, List.map_append]
        rfl
      · refine hN _ _ _ ⟨_, rfl⟩ ⟨rfl, ?_⟩ (by simp)
        rw [filt_take _ ek, if_neg z, List.append_nil]
    · rintro ys H4 ⟨rfl, rfl⟩ p5 hp5
      rw [List.length_map, List.take_length]
      have eb : ((ups ps.length).filter fun k => !decide (k ∈ t)) = besP ps t := rfl
      rw [eb]
      have s5 := Same.new (o := HO.lst ((besP ps t).map V.int)) hp5
      have h5 : (upd H4 p5 (.lst ((besP ps t).map V.int))) p5 = some (.lst ((besP ps t).map V.int)) := upd_same
      generalize upd H4 p5 (.lst ((besP ps t).map V.int)) = H5 at s5 h5 ⊢
      have s25 := s3.trans s5
      have bl : (besP ps t).length <= 8 := by
        have := List.length_filter_le (fun k => !decide (k ∈ t)) (ups ps.length)
        rw [ups_len] at this
        unfold besP
        omega
      refine ⟨_, rfl, p5, rfl, ⟨_, SqL.of h5⟩, comp_seq (k := .l) (a := p5) (xs := (besP ps t).map V.int) (fun σ => ∃ v, σ = [v, some (.ref g2), some (.ref t1)]) (fun i ys H6 => Same H5 H6 /\ ys = (((besP ps t).take i).filter fun k => !((ord.take (ixOf ord k)).any fun c => decide (c ∈ ((swP n ps t).filter fun p => decide (p.2 = k)).map (·.1)))).map V.int) ⟨_, rfl⟩ ⟨Same.refl _, rfl⟩ (by rw [List.length_map]; exact ten_line (by omega)) (fun i ys H6 _ z => SqL.of (z.1 _ _ h5)) ?_ ?_⟩
      · rintro i x ys σ H6 N hx ⟨u, rfl⟩ ⟨s6, rfl⟩ hN
        obtain ⟨k, ek, rfl⟩ := get_int' hx
        have ko : k ∈ ord := ho.perm.mem_iff.mpr (List.mem_filter.mp (List.mem_of_getElem? ek)).1
        have s26 := s25.trans s6
        dsimp only [gName, List.set]
        refine ⟨_, rfl, _, rfl, _, rfl, t1, g2, ord, k, zs, swP n ps t, rfl, ht2.same s26, s26 _ _ hz, ties_same pz s26, sw64 n ps t h8 tl, ko, ol, fun H7 s7 => ⟨_, rfl, ?_⟩⟩
        refine ite2 (fun z => ⟨_, rfl, ?_⟩) (fun z => ?_)
        · refine hN _ _ _ ⟨_, rfl⟩ ⟨s6.trans s7, ?_⟩ (by simp)
          rw [filt_take _ ek, if_pos z, List.map_append]
          rfl
        · refine hN _ _ _ ⟨_, rfl⟩ ⟨s6.trans s7, ?_⟩ (by simp)
          rw [filt_take _ ek, if_neg z, List.append_nil]
      · rintro ys H6 ⟨s6, rfl⟩ p7 hp7
        rw [List.length_map, List.take_length]
        refine ⟨p7, _, rfl, .inl ⟨SqL.of upd_same, fun t8 ht8 => ?_⟩⟩
        exact q t8 _ (s13.trans (s5.trans (s6.trans ((Same.new hp7).trans (Same.new ht8))))) upd_same
end
def mkB (n : Int) (ps : List (Int × Int)) (t : List Int) (g c : Int) : Bool := decide (rk n ps (dropG t g ++ [c]) = (t.length : Int))
def linP (n : Int) (ps : List (Int × Int)) (t ord : List Int) : List Int := t.filter fun g => !(((ord.take (ixOf ord g)).filter fun c => !decide (c ∈ t)).any fun c => mkB n ps t g c)
def loutP (n : Int) (ps : List (Int × Int)) (t ord : List Int) : List Int := (ups ps.length).filter fun c => !decide (c ∈ t) && !(((ord.take (ixOf ord c)).filter fun g => decide (g ∈ t)).any fun g => mkB n ps t g c)
theorem drop_len : ∀ {t : List Int} {g : Int}, t.Pairwise (· < ·) -> g ∈ t -> (dropG t g).length + 1 = t.length
  | x :: t, g, up, h => by
    obtain ⟨a, b⟩ := List.pairwise_cons.mp up
    unfold dropG
    by_cases c : x = g
    · rw [List.filter_cons_of_neg (by rw [c]; simp), List.filter_eq_self.mpr, List.length_cons]
      intro y hy
      have := a y hy
      exact decide_eq_true (by omega)
    · rw [List.filter_cons_of_pos (by exact decide_eq_true c), List.length_cons, List.length_cons]
      have := drop_len b ((List.mem_cons.mp h).resolve_left fun z => c z.symm)
      unfold dropG at this
      omega
structure Tree (n : Int) (ps : List (Int × Int)) (t : List Int) : Prop where
  ks : Ks ps.length t
  up : t.Pairwise (· < ·)
  rk : (t.length : Int) = n - cN n ps t
theorem tree_of {n : Int} {ps : List (Int × Int)} (ok : WebOk n ps) {t : List Int} (h : t ∈ treesP n ps) : Tree n ps t := by
  obtain ⟨_, _, h8⟩ := ok
  obtain ⟨a, b⟩ := (allP_rise h8).mp (trees_all h)
  have e1 := trees_len h
  have e2 := of_decide_eq_true (List.mem_filter.mp h).2
  rw [rkP_c] at e2
  exact ⟨a, b, by omega⟩
theorem mk_ac {n : Int} {ps : List (Int × Int)} (ok : WebOk n ps) {t : List Int} (T : Tree n ps t) {g c : Int} (hg : g ∈ t) (c0 : 0 <= c) (cl : c < ps.length) : mkB n ps t g c = acB n ps t g c := by
  obtain ⟨⟨n1, n9⟩, hb, h8⟩ := ok
  have kd : Ks ps.length (dropG t g) := fun k hk => T.ks k (List.mem_filter.mp hk).1
  have gm := T.ks g hg
  have e1 := c_snoc n1 hb kd gm.1 gm.2
  have kdg : Ks ps.length (dropG t g ++ [g]) := ks_app kd fun k hk => by rw [List.mem_singleton.mp hk]; exact gm
  have e2 : cN n ps (dropG t g ++ [g]) = cN n ps t := by
    refine c_same n1 hb kdg T.ks fun k => ?_
    rw [List.mem_append, List.mem_singleton]
    unfold dropG
    rw [List.mem_filter, decide_eq_true_iff]
    by_cases z : k = g
    · rw [z]; exact ⟨fun _ => hg, fun _ => .inr rfl⟩
    · exact ⟨fun h => (h.resolve_right z).1, fun h => .inl ⟨h, z⟩⟩
  have wi := (c_within n1 n9 hb kd).2
  have dl := drop_len T.up hg
  have tr := T.rk
  have ed : n - cN n ps (dropG t g) = (t.length : Int) - 1 := by
    rw [e2] at e1
    split at e1 <;> omega
  have kdc : Ks ps.length (dropG t g ++ [c]) := ks_app kd fun k hk => by rw [List.mem_singleton.mp hk]; exact ⟨c0, cl⟩
  have e3 := c_snoc n1 hb kd c0 cl
  unfold mkB acB apart
  rw [<- rkP_rk n1 n9 hb kdc, rkP_c, e3]
  by_cases z : at0 (hdF ps (ups n) (dropG t g)) (tieN ps c).1 = at0 (hdF ps (ups n) (dropG t g)) (tieN ps c).2
  · rw [if_pos z, decide_eq_true z, decide_eq_false (by omega)]
    rfl
  · rw [if_neg z, decide_eq_false z, decide_eq_true (by omega)]
    rfl
theorem ac_in {n : Int} {ps : List (Int × Int)} (ok : WebOk n ps) {t : List Int} (T : Tree n ps t) {g c : Int} (hc : c ∈ t) (ne : c ≠ g) : acB n ps t g c = false := by
  obtain ⟨⟨n1, n9⟩, hb, h8⟩ := ok
  have kd : Ks ps.length (dropG t g) := fun k hk => T.ks k (List.mem_filter.mp hk).1
  have cm := T.ks c hc
  have e1 := c_snoc n1 hb kd cm.1 cm.2
  have e2 : cN n ps (dropG t g ++ [c]) = cN n ps (dropG t g) := by
    refine c_same n1 hb (ks_app kd fun k hk => by rw [List.mem_singleton.mp hk]; exact cm) kd fun k => ?_
    rw [List.mem_append, List.mem_singleton]
    refine ⟨fun h => h.elim id fun z => ?_, .inl⟩
    rw [z]
    exact List.mem_filter.mpr ⟨hc, decide_eq_true ne⟩
  unfold acB apart
  rw [e2] at e1
  split at e1
  · next z => rw [decide_eq_true z]; rfl
  · omega
theorem sw_mem {n : Int} {ps : List (Int × Int)} {t : List Int} {p : Int × Int} : p ∈ swP n ps t ↔ p.1 ∈ t /\ (0 <= p.2 /\ p.2 < ps.length) /\ acB n ps t p.1 p.2 = true := by
  unfold swP
  rw [List.mem_flatMap]
  constructor
  · rintro ⟨g, hg, hp⟩
    unfold swOf at hp
    obtain ⟨c, hc, rfl⟩ := List.mem_map.mp hp
    obtain ⟨h1, h2⟩ := List.mem_filter.mp hc
    exact ⟨hg, mem_ups.mp h1, h2⟩
  · rintro ⟨h1, h2, h3⟩
    exact ⟨p.1, h1, List.mem_map.mpr ⟨p.2, List.mem_filter.mpr ⟨mem_ups.mpr h2, h3⟩, rfl⟩⟩
theorem sw_in {n : Int} {ps : List (Int × Int)} {t : List Int} {k c : Int} : c ∈ ((swP n ps t).filter fun p => decide (p.1 = k)).map (·.2) ↔ k ∈ t /\ (0 <= c /\ c < ps.length) /\ acB n ps t k c = true := by
  rw [List.mem_map]
  constructor
  · rintro ⟨p, hp, rfl⟩
    obtain ⟨h1, h2⟩ := List.mem_filter.mp hp
    have e := of_decide_eq_true h2
    rw [<- e]
    exact sw_mem.mp h1
  · intro h
    exact ⟨(k, c), List.mem_filter.mpr ⟨sw_mem.mpr h, decide_eq_true rfl⟩, rfl⟩
theorem sw_out {n : Int} {ps : List (Int × Int)} {t : List Int} {k g : Int} : g ∈ ((swP n ps t).filter fun p => decide (p.2 = k)).map (·.1) ↔ g ∈ t /\ (0 <= k /\ k < ps.length) /\ acB n ps t g k = true := by
  rw [List.mem_map]
  constructor
  · rintro ⟨p, hp, rfl⟩
    obtain ⟨h1, h2⟩ := List.mem_filter.mp hp
    have e := of_decide_eq_true h2
    rw [<- e]
    exact sw_mem.mp h1
  · intro h
    exact ⟨(g, k), List.mem_filter.mpr ⟨sw_mem.mpr h, decide_eq_true rfl⟩, rfl⟩
theorem take_ne {l : List Int} {k c : Int} (h : c ∈ l.take (ixOf l k)) : c ≠ k := by
  obtain ⟨i, hi, e⟩ := List.mem_iff_getElem.mp h
  rw [List.length_take] at hi
  intro z
  have := ix_no (l := l) (k := k) i (by omega)
  apply this
  rw [List.getElem_take] at e
  rw [List.getElem?_eq_getElem (by omega), e, z]
theorem inn_eq {n : Int} {ps : List (Int × Int)} (ok : WebOk n ps) {t ord : List Int} (T : Tree n ps t) (pm : ord.Perm (ups ps.length)) : innP n ps t ord = linP n ps t ord := by
  unfold innP linP
  refine List.filter_congr fun k hk => ?_
  congr 1
  rw [Bool.eq_iff_iff, List.any_eq_true, List.any_eq_true]
  constructor
  · rintro ⟨c, hc, h⟩
    obtain ⟨_, cm, ha⟩ := sw_in.mp (of_decide_eq_true h)
    refine ⟨c, List.mem_filter.mpr ⟨hc, ?_⟩, by rw [mk_ac ok T hk cm.1 cm.2]; exact ha⟩
    rw [Bool.not_eq_true', decide_eq_false_iff_not]
    intro z
    rw [ac_in ok T z (take_ne hc)] at ha
    cases ha
  · rintro ⟨c, hc, h⟩
    have h1 := (List.mem_filter.mp hc).1
    have cm := mem_ups.mp (pm.mem_iff.mp (List.mem_of_mem_take h1))
    exact ⟨c, h1, decide_eq_true (sw_in.mpr ⟨hk, cm, by rw [<- mk_ac ok T hk cm.1 cm.2]; exact h⟩)⟩
theorem out_eq {n : Int} {ps : List (Int × Int)} (ok : WebOk n ps) {t ord : List Int} (T : Tree n ps t) : outP n ps t ord = loutP n ps t ord := by
  unfold outP loutP besP
  rw [List.filter_filter]
  refine List.filter_congr fun k hk => ?_
  have km := mem_ups.mp hk
  rw [Bool.and_comm]
  congr 2
  rw [Bool.eq_iff_iff, List.any_eq_true, List.any_eq_true]
  constructor
  · rintro ⟨g, hg, h⟩
    obtain ⟨gt, _, ha⟩ := sw_out.mp (of_decide_eq_true h)
    exact ⟨g, List.mem_filter.mpr ⟨hg, decide_eq_true gt⟩, by rw [mk_ac ok T gt km.1 km.2]; exact ha⟩
  · rintro ⟨g, hg, h⟩
    obtain ⟨h1, h2⟩ := List.mem_filter.mp hg
    have gt := of_decide_eq_true h2
    exact ⟨g, h1, decide_eq_true (sw_out.mpr ⟨gt, km, by rw [<- mk_ac ok T gt km.1 km.2]; exact h⟩)⟩
structure RankOk (m : Nat) (r : List Int -> Int) : Prop where
  same : ∀ {X Y : List Int}, Ks m X -> Ks m Y -> (∀ k, k ∈ X ↔ k ∈ Y) -> r X = r Y
  gain : ∀ {D X : List Int}, Ks m D -> Ks m X -> 0 <= r (X ++ D) - r X /\ r (X ++ D) - r X <= D.length
  sub : ∀ {D X Y : List Int}, Ks m D -> Ks m X -> Ks m Y -> (∀ k ∈ X, k ∈ Y) -> r (Y ++ D) - r Y <= r (X ++ D) - r X
  nil : r [] = 0
theorem rank_ok {n : Int} {ps : List (Int × Int)} (n1 : 1 <= n) (n9 : n <= 9) (hb : ∀ p ∈ ps, InN n p) : RankOk ps.length (rkP n ps) where
  same := fun h1 h2 h => by rw [rkP_c, rkP_c, c_same n1 hb h1 h2 h]
  gain := fun {D X} h1 h2 => by
    have := c_app n1 hb D X h1 h2
    rw [rkP_c, rkP_c]
    lia
  sub := fun {D X Y} h1 h2 h3 h => by
    have := c_sub n1 hb D X Y h1 h2 h3 h
    rw [rkP_c, rkP_c, rkP_c, rkP_c]
    lia
  nil := by rw [rkP_c, c_nil n1 n9]; lia
section
variable {m : Nat} {r : List Int -> Int}
theorem ks_one {k : Int} (h0 : 0 <= k) (h1 : k < (m : Int)) : Ks m [k] := fun j hj => by rw [List.mem_singleton.mp hj]; exact ⟨h0, h1⟩
def insU (m : Nat) (t : List Int) (k : Int) : List Int := (ups m).filter fun x => decide (x ∈ t \/ x = k)
theorem mem_ins {t : List Int} {k x : Int} (ht : Ks m t) (k0 : 0 <= k /\ k < (m : Int)) : x ∈ insU m t k ↔ x ∈ t \/ x = k := by
  unfold insU
  rw [List.mem_filter, mem_ups, decide_eq_true_iff]
  exact ⟨fun z => z.2, fun z => ⟨z.elim (ht x) (fun e => by rw [e]; exact k0), z⟩⟩
def condT (r : List Int -> Int) (R : Int) (pick t ra : List Int) (k : Int) : Bool := decide (r (t ++ ra) < R) || (decide (k ∈ pick) && !decide (r (t ++ [k]) = r t))
def trG (m : Nat) (r : List Int -> Int) (R : Int) (pick : List Int) : List Int -> List Int -> List Int
  | [], t => t
  | k :: ra, t => trG m r R pick ra (if condT r R pick t ra k = true then insU m t k else t)
structure WalkT (m : Nat) (r : List Int -> Int) (R : Int) (ra t : List Int) : Prop where
  kt : Ks m t
  up : t.Pairwise (· < ·)
  kr : Ks m ra
  nd : ra.Nodup
  dis : ∀ x ∈ t, x ∉ ra
  ind : r t = t.length
  full : r (t ++ ra) = R
theorem ins_up (t : List Int) (k : Int) : (insU m t k).Pairwise (· < ·) := (ups_up m).filter _
theorem nd_of_up {t : List Int} (h : t.Pairwise (· < ·)) : t.Nodup := h.imp fun z => by lia
theorem len_same {X Y : List Int} (h1 : X.Nodup) (h2 : Y.Nodup) (h : ∀ k, k ∈ X ↔ k ∈ Y) : X.length = Y.length := (same_perm h1 h2 h).length_eq
theorem WalkT.step (o : RankOk m r) {R : Int} {pick ra t : List Int} {k : Int} (W : WalkT m r R (k :: ra) t) : WalkT m r R ra (if condT r R pick t ra k = true then insU m t k else t) := by
  have km := W.kr k List.mem_cons_self
  have kr' : Ks m ra := fun j hj => W.kr j (List.mem_cons_of_mem _ hj)
  obtain ⟨nk, nd'⟩ := List.nodup_cons.mp W.nd
  have k1 := ks_one km.1 km.2
  have kn : k ∉ t := fun z => W.dis k z List.mem_cons_self
  have g1 := o.gain k1 W.kt
  have l1 : (([k] : List Int).length : Int) = 1 := rfl
  have ft := W.full
  have e1 : r (t ++ k :: ra) = r (t ++ ra ++ [k]) := o.same (ks_app W.kt W.kr) (ks_app (ks_app W.kt kr') k1) fun x => by
    simp only [List.mem_append, List.mem_cons, List.not_mem_nil, or_false]
    constructor
    · rintro (z | z | z)
      · exact .inl (.inl z)
      · exact .inr z
      · exact .inl (.inr z)
    · rintro ((z | z) | z)
      · exact .inl z
      · exact .inr (.inr z)
      · exact .inr (.inl z)
  have g2 := o.gain k1 (ks_app W.kt kr')
  by_cases c : condT r R pick t ra k = true
  · rw [if_pos c]
    have ki : Ks m (insU m t k) := fun x hx => by
      rcases (mem_ins W.kt km).mp hx with z | z
      · exact W.kt x z
      · rw [z]; exact km
    have si : ∀ x, x ∈ insU m t k ↔ x ∈ t ++ [k] := fun x => by
      rw [mem_ins W.kt km, List.mem_append, List.mem_singleton]
    have ndk : (t ++ [k]).Nodup := by
      rw [List.nodup_append]
      exact ⟨nd_of_up W.up, List.nodup_cons.mpr ⟨(fun z => nomatch z), .nil⟩, fun a ha b hb => by rw [List.mem_singleton.mp hb]; exact fun z => kn (by rw [<- z]; exact ha)⟩
    have li := len_same (nd_of_up (ins_up t k)) ndk si
    have ri := o.same ki (ks_app W.kt k1) si
    have raise : r (t ++ [k]) = r t + 1 := by
      unfold condT at c
      rw [Bool.or_eq_true, Bool.and_eq_true, decide_eq_true_iff, Bool.not_eq_true', decide_eq_false_iff_not] at c
      rcases c with c | c
      · have s := o.sub (D := [k]) (X := t) (Y := t ++ ra) k1 W.kt (ks_app W.kt kr') fun x hx => List.mem_append_left _ hx
        lia
      · have := c.2
        lia
    refine ⟨ki, ins_up t k, kr', nd', fun x hx => ?_, ?_, ?_⟩
    · rcases (mem_ins W.kt km).mp hx with z | z
      · exact fun y => W.dis x z (List.mem_cons_of_mem _ y)
      · rw [z]; exact nk
    · rw [ri, li, raise, W.ind, List.length_append]
      rfl
    · rw [<- ft]
      refine o.same (ks_app ki kr') (ks_app W.kt W.kr) fun x => ?_
      rw [List.mem_append, List.mem_append, List.mem_cons, si, List.mem_append, List.mem_singleton]
      exact ⟨fun z => z.elim (fun z => z.elim .inl fun z => .inr (.inl z)) fun z => .inr (.inr z), fun z => z.elim (fun z => .inl (.inl z)) fun z => z.elim (fun z => .inl (.inr z)) .inr⟩
  · rw [if_neg c]
    refine ⟨W.kt, W.up, kr', nd', fun x hx y => W.dis x hx (List.mem_cons_of_mem _ y), W.ind, ?_⟩
    unfold condT at c
    rw [Bool.or_eq_true, decide_eq_true_iff] at c
    have : ¬ r (t ++ ra) < R := fun z => c (.inl z)
    lia
end
def treeO (n : Int) (ps : List (Int × Int)) (pick ord : List Int) : List Int := trG ps.length (rkP n ps) (rkAll n ps) pick ord.reverse []
theorem walk0 {n : Int} {ps : List (Int × Int)} (ok : WebOk n ps) {ord : List Int} (pm : ord.Perm (ups ps.length)) : WalkT ps.length (rkP n ps) (rkAll n ps) ord.reverse [] := by
  obtain ⟨⟨n1, n9⟩, hb, h8⟩ := ok
  have o := rank_ok n1 n9 hb
  have ko : Ks ps.length ord.reverse := fun k hk => mem_ups.mp (pm.mem_iff.mp (List.mem_reverse.mp hk))
  refine ⟨(fun _ z => nomatch z), .nil, ko, ?_, (fun _ z => nomatch z), o.nil, ?_⟩
  · exact ((List.reverse_perm ord).trans pm).nodup_iff.mpr (nd_of_up (ups_up _))
  · rw [List.nil_append]
    exact o.same ko (ups_ks _) fun k => by rw [List.mem_reverse]; exact pm.mem_iff
theorem treeP_of {n : Int} {ps : List (Int × Int)} (ok : WebOk n ps) {t : List Int} (h : t ∈ treesP n ps) : Tree n ps t := tree_of ok h
abbrev T3 := Int × Int × Int
def k3 (t : T3) : Int × Int := (t.1, t.2.1)
def coef (ts : List T3) (k : Int × Int) : Int := ((ts.filter fun t => decide (k3 t = k)).map (·.2.2)).sum
theorem coef_cons (t : T3) (ts : List T3) (k : Int × Int) : coef (t :: ts) k = (if k3 t = k then t.2.2 else 0) + coef ts k := by
  unfold coef
  by_cases h : k3 t = k
  · rw [List.filter_cons_of_pos (by simpa using h), if_pos h, List.map_cons, List.sum_cons]
  · rw [List.filter_cons_of_neg (by simpa using h), if_neg h, Int.zero_add]
theorem coef_app (a b : List T3) (k : Int × Int) : coef (a ++ b) k = coef a k + coef b k := by
  induction a with
  | nil => show coef b k = 0 + coef b k; lia
  | cons t a ih => rw [List.cons_append, coef_cons, coef_cons, ih]; lia
theorem coef_zero {ts : List T3} {k : Int × Int} (h : ∀ t ∈ ts, k3 t ≠ k) : coef ts k = 0 := by
  induction ts with
  | nil => rfl
  | cons t ts ih =>
    rw [coef_cons, if_neg (h t (List.mem_cons_self ..)), ih fun u hu => h u (List.mem_cons_of_mem _ hu)]
    lia
def keyLt (a b : T3) : Prop := a.1 < b.1 \/ (a.1 = b.1 /\ a.2.1 < b.2.1)
structure PolyIs (ts L : List T3) : Prop where
  up : L.Pairwise keyLt
  mem : ∀ t, t ∈ L ↔ t.2.2 ≠ 0 /\ t.2.2 = coef ts (k3 t)
theorem sorted_ext : ∀ {L M : List T3}, L.Pairwise keyLt -> M.Pairwise keyLt -> (∀ t, t ∈ L ↔ t ∈ M) -> L = M
  | [], [], _, _, _ => rfl
  | [], b :: M, _, _, h => absurd ((h b).mpr (List.mem_cons_self ..)) (by simp)
  | a :: L, [], _, _, h => absurd ((h a).mp (List.mem_cons_self ..)) (by simp)
  | a :: L, b :: M, h1, h2, h => by
    obtain ⟨p1, q1⟩ := List.pairwise_cons.mp h1
    obtain ⟨p2, q2⟩ := List.pairwise_cons.mp h2
    have e : a = b := by
      rcases List.mem_cons.mp ((h a).mp (List.mem_cons_self ..)) with e | e
      · exact e
      · rcases List.mem_cons.mp ((h b).mpr (List.mem_cons_self ..)) with e' | e'
        · exact e'.symm
        · have x := p2 a e
          have y := p1 b e'
          unfold keyLt at x y
          lia
    subst e
    rw [sorted_ext q1 q2 fun t => ⟨fun ht => ?_, fun ht => ?_⟩]
    · rcases List.mem_cons.mp ((h t).mp (List.mem_cons_of_mem _ ht)) with e | e
      · have x := p1 t ht
        rw [e] at x
        unfold keyLt at x
        lia
      · exact e
    · rcases List.mem_cons.mp ((h t).mpr (List.mem_cons_of_mem _ ht)) with e | e
      · have x := p2 t ht
        rw [e] at x
        unfold keyLt at x
        lia
      · exact e
theorem PolyIs.uniq {ts us L M : List T3} (h1 : PolyIs ts L) (h2 : PolyIs us M) (h : ∀ k, coef ts k = coef us k) : L = M :=
  sorted_ext h1.up h2.up fun t => by rw [h1.mem, h2.mem, h]
def kk (k : Int × Int) : List Key := [.inl k.1, .inl k.2]
theorem kk_inj {a b : Int × Int} (h : kk a = kk b) : a = b := by
  unfold kk at h
  simp only [List.cons.injEq, Sum.inl.injEq, and_true] at h
  exact Prod.ext h.1 h.2
structure TabIs (ts : List T3) (kvs : TTab) : Prop where
  nd : (kvs.map (·.1)).Nodup
  val : ∀ p ∈ kvs, ∃ k, p = (kk k, V.int (coef ts k))
  has : ∀ t ∈ ts, kk (k3 t) ∈ kvs.map (·.1)
  len : kvs.length <= ts.length
theorem TabIs.nil : TabIs [] [] := ⟨by simp, (fun _ h => nomatch h), (fun _ h => nomatch h), Nat.le_refl _⟩
theorem valV_mem {kvs : TTab} {k : List Key} {v : V} (h : valV kvs k = some v) : (k, v) ∈ kvs := by
  unfold valV at h
  obtain ⟨p, hp, rfl⟩ := Option.map_eq_some_iff.mp h
  have h1 := List.mem_of_find?_eq_some hp
  have h2 := List.find?_some hp
  have : p.1 = k := by simpa using h2
  rw [<- this]
  exact h1
theorem valV_none {kvs : TTab} {k : List Key} (h : valV kvs k = none) : k ∉ kvs.map (·.1) := by
  unfold valV at h
  rw [Option.map_eq_none_iff] at h
  intro hm
  obtain ⟨p, hp, e⟩ := List.mem_map.mp hm
  have := List.find?_eq_none.mp h p hp
  exact this (by simpa using e)
theorem TabIs.at {ts : List T3} {kvs : TTab} (h : TabIs ts kvs) (k : Int × Int) : (valV kvs (kk k)).getD (.int 0) = .int (coef ts k) := by
  cases e : valV kvs (kk k) with
  | some v =>
    obtain ⟨k', e'⟩ := h.val _ (valV_mem e)
    injection e' with e1 e2
    rw [kk_inj e1, e2]
    rfl
  | none =>
    have := valV_none e
    rw [coef_zero fun t ht z => this (by rw [<- z]; exact h.has t ht)]
    rfl
theorem TabIs.put {ts : List T3} {kvs : TTab} (h : TabIs ts kvs) (t : T3) : TabIs (ts ++ [t]) (putK kvs (kk (k3 t)) (.int (coef ts (k3 t) + t.2.2))) := by
  have c1 : coef (ts ++ [t]) (k3 t) = coef ts (k3 t) + t.2.2 := by
    rw [coef_app, coef_cons, if_pos rfl]
    show _ + (_ + 0) = _
    lia
  have c2 : ∀ k, k3 t ≠ k -> coef (ts ++ [t]) k = coef ts k := fun k hk => by
    rw [coef_app, coef_cons, if_neg hk]
    show _ + (0 + 0) = _
    lia
  refine ⟨?_, ?_, ?_, ?_⟩
  · unfold putK
    split
    · rw [List.map_map]
      have : ((fun x : List Key × V => x.1) ∘ fun kv : List Key × V => if kv.1 = kk (k3 t) then (kv.1, V.int (coef ts (k3 t) + t.2.2)) else kv) = fun x => x.1 := by
        funext p
        show (if p.1 = kk (k3 t) then (p.1, _) else p).1 = p.1
        split <;> rfl
      rw [this]
      exact h.nd
    · rename_i hn
      rw [List.map_append, List.nodup_append]
      refine ⟨h.nd, by simp, fun a ha b hb => ?_⟩
      have : b = kk (k3 t) := by simpa using hb
      subst this
      intro e
      subst e
      apply hn
      obtain ⟨p, hp, e⟩ := List.mem_map.mp ha
      exact List.any_eq_true.mpr ⟨p, hp, by simpa using e⟩
  · intro p hp
    unfold putK at hp
    split at hp
    · obtain ⟨q, hq, rfl⟩ := List.mem_map.mp hp
      obtain ⟨k, e⟩ := h.val q hq
      by_cases c : q.1 = kk (k3 t)
      · rw [if_pos c]
        exact ⟨k3 t, by rw [c, c1]⟩
      · rw [if_neg c]
        refine ⟨k, ?_⟩
        rw [e, c2 k fun z => c (by rw [e, z])]
    · rename_i hn
      rcases List.mem_append.mp hp with hp | hp
      · obtain ⟨k, e⟩ := h.val p hp
        refine ⟨k, ?_⟩
        rw [e, c2 k fun z => hn (List.any_eq_true.mpr ⟨p, hp, by rw [e, z]; simp⟩)]
      · have : p = (kk (k3 t), V.int (coef ts (k3 t) + t.2.2)) := by simpa using hp
        exact ⟨k3 t, by rw [this, c1]⟩
  · have keep : ∀ x ∈ kvs.map (·.1), x ∈ (putK kvs (kk (k3 t)) (V.int (coef ts (k3 t) + t.2.2))).map (·.1) := by
      intro x hx
      unfold putK
      split
      · obtain ⟨p, hp, rfl⟩ := List.mem_map.mp hx
        refine List.mem_map.mpr ⟨_, List.mem_map.mpr ⟨p, hp, rfl⟩, ?_⟩
        show (if p.1 = kk (k3 t) then (p.1, _) else p).1 = p.1
        split <;> rfl
      · rw [List.map_append]
        exact List.mem_append_left _ hx
    intro u hu
    rcases List.mem_append.mp hu with hu | hu
    · exact keep _ (h.has u hu)
    · have : u = t := by simpa using hu
      subst this
      unfold putK
      split
      · rename_i hy
        obtain ⟨p, hp, e⟩ := List.any_eq_true.mp hy
        have e' : p.1 = kk (k3 u) := by simpa using e
        refine List.mem_map.mpr ⟨_, List.mem_map.mpr ⟨p, hp, rfl⟩, ?_⟩
        show (if p.1 = kk (k3 u) then (p.1, _) else p).1 = _
        rw [if_pos e', e']
      · rw [List.map_append]
        exact List.mem_append_right _ (by simp)
  · have := length_putK kvs (kk (k3 t)) (V.int (coef ts (k3 t) + t.2.2))
    have := h.len
    rw [List.length_append]
    show _ <= _ + 1
    lia
def selP (p : List Key × V) : Option T3 := match p with
  | ([.inl i, .inl j], .int n) => if n = 0 then none else some (i, j, n)
  | _ => none
def sel (kvs : TTab) : List T3 := kvs.filterMap selP
theorem selP_kk (k : Int × Int) (n : Int) : selP (kk k, .int n) = if n = 0 then none else some (k.1, k.2, n) := rfl
theorem sel_mem {ts : List T3} {kvs : TTab} (h : TabIs ts kvs) (t : T3) : t ∈ sel kvs ↔ t.2.2 ≠ 0 /\ t.2.2 = coef ts (k3 t) := by
  unfold sel
  rw [List.mem_filterMap]
  constructor
  · rintro ⟨p, hp, e⟩
    obtain ⟨k, rfl⟩ := h.val p hp
    rw [selP_kk] at e
    by_cases c : coef ts k = 0
    · rw [if_pos c] at e; cases e
    · rw [if_neg c] at e
      cases e
      exact ⟨c, rfl⟩
  · rintro ⟨c, e⟩
    have : ∃ u ∈ ts, k3 u = k3 t := by
      refine Classical.byContradiction fun hn => c ?_
      rw [e]
      exact coef_zero fun u hu z => hn ⟨u, hu, z⟩
    obtain ⟨u, hu, eu⟩ := this
    obtain ⟨p, hp, e2⟩ := List.mem_map.mp (h.has u hu)
    obtain ⟨k, rfl⟩ := h.val p hp
    have ek : k = k3 t := by rw [<- eu]; exact kk_inj e2
    refine ⟨_, hp, ?_⟩
    rw [selP_kk, ek, <- e, if_neg c]
    rfl
theorem sel_keys {ts : List T3} {kvs : TTab} (h : TabIs ts kvs) : ((sel kvs).map k3).Nodup := by
  have hv := h.val
  have hn := h.nd
  clear h
  induction kvs with
  | nil => simp [sel]
  | cons p kvs ih =>
    rw [List.map_cons, List.nodup_cons] at hn
    have ih' := ih (fun q hq => hv q (List.mem_cons_of_mem _ hq)) hn.2
    obtain ⟨k, rfl⟩ := hv p (List.mem_cons_self ..)
    unfold sel at ih' ⊢
    by_cases c : coef ts k = 0
    · rw [List.filterMap_cons_none (by rw [selP_kk, if_pos c])]
      exact ih'
    · rw [List.filterMap_cons_some (by rw [selP_kk, if_neg c]), List.map_cons, List.nodup_cons]
      refine ⟨fun hm => hn.1 ?_, ih'⟩
      obtain ⟨t, ht, e⟩ := List.mem_map.mp hm
      obtain ⟨q, hq, eq⟩ := List.mem_filterMap.mp ht
      obtain ⟨k', rfl⟩ := hv q (List.mem_cons_of_mem _ hq)
      rw [selP_kk] at eq
      by_cases c' : coef ts k' = 0
      · rw [if_pos c'] at eq; cases eq
      · rw [if_neg c'] at eq
        cases eq
        have : k' = k := e
        subst this
        exact List.mem_map.mpr ⟨_, hq, rfl⟩
theorem sel_len {ts : List T3} {kvs : TTab} (h : TabIs ts kvs) : (sel kvs).length <= ts.length := Nat.le_trans (List.length_filterMap_le ..) h.len
def l3 (t : T3) : List Int := [t.1, t.2.1, t.2.2]
def u3 (l : List Int) : T3 := (l.getD 0 0, l.getD 1 0, l.getD 2 0)
theorem u3_l3 (t : T3) : u3 (l3 t) = t := rfl
theorem le_key {a b : T3} (h : LexLe (l3 a) (l3 b)) (ne : k3 a ≠ k3 b) : keyLt a b := by
  unfold LexLe l3 at h
  rw [HT.lexLt_cons] at h
  unfold keyLt
  by_cases e : b.1 = a.1
  · rw [if_pos e, HT.lexLt_cons] at h
    by_cases e2 : b.2.1 = a.2.1
    · exact absurd (show (a.1, a.2.1) = (b.1, b.2.1) by rw [e, e2]) ne
    · rw [if_neg e2] at h
      have := of_decide_eq_false h
      exact .inr ⟨e.symm, by lia⟩
  · rw [if_neg e] at h
    have := of_decide_eq_false h
    exact .inl (by lia)
theorem poly_sorted {ts : List T3} {kvs : TTab} (h : TabIs ts kvs) {kss : List (List Int)} (hp : kss.Perm ((sel kvs).map l3)) (hs : kss.Pairwise LexLe) : ∃ L, kss = L.map l3 /\ PolyIs ts L /\ L.length <= ts.length := by
  have e1 : kss.map u3 |>.map l3 |> (· = kss) := by
    rw [List.map_map]
    have : ∀ x ∈ kss, (l3 ∘ u3) x = x := fun x hx => by
      obtain ⟨t, _, rfl⟩ := List.mem_map.mp (hp.mem_iff.mp hx)
      show l3 (u3 (l3 t)) = l3 t
      rw [u3_l3]
    exact (List.map_congr_left this).trans (List.map_id _)
  have pm : (kss.map u3).Perm (sel kvs) := by
    have := hp.map u3
    rw [List.map_map] at this
    have e2 : (sel kvs).map (u3 ∘ l3) = sel kvs := (List.map_congr_left fun t _ => u3_l3 t).trans (List.map_id _)
    rw [e2] at this
    exact this
  refine ⟨kss.map u3, e1.symm, ⟨?_, fun t => by rw [pm.mem_iff, sel_mem h]⟩, by rw [pm.length_eq]; exact sel_len h⟩
  have nd : ((kss.map u3).map k3).Nodup := (pm.map k3).nodup_iff.mpr (sel_keys h)
  have nd2 : (kss.map u3).Pairwise fun a b => k3 a ≠ k3 b := List.pairwise_map.mp nd
  have s2 : (kss.map u3).Pairwise fun a b => LexLe (l3 a) (l3 b) := by
    rw [<- e1] at hs
    exact List.pairwise_map.mp hs
  exact (s2.and nd2).imp fun ⟨x, y⟩ => le_key x y
def TermAt (H : Hp) (v : V) (t : T3) : Prop := ∃ a, v = .ref a /\ H a = some (.tup [.int t.1, .int t.2.1, .int t.2.2])
theorem TermAt.same {H H' : Hp} {v : V} {t : T3} (h : TermAt H v t) (e : Same H H') : TermAt H' v t := let ⟨a, h1, h2⟩ := h; ⟨a, h1, e _ _ h2⟩
theorem terms_same {H H' : Hp} {xs : List V} {ts : List T3} (h : Paired (TermAt H) xs ts) (e : Same H H') : Paired (TermAt H') xs ts := L2.Paired.mapP h fun _ _ q => q.same e
theorem Same.put {H H2 : Hp} {p : Addr} {o : HO} (s : Same H H2) (h : H p = none) : Same H (upd H2 p o) := fun b u e => by rw [upd_ne (ne_of_none e h)]; exact s b u e
structure PolyAt (H : Hp) (v : V) (L : List T3) : Prop where
  ex : ∃ c rs, v = .ref c /\ H c = some (.tup rs) /\ Paired (TermAt H) rs L
theorem PolyAt.same {H H' : Hp} {v : V} {L : List T3} (h : PolyAt H v L) (e : Same H H') : PolyAt H' v L := by
  obtain ⟨c, rs, h1, h2, h3⟩ := h.ex
  exact ⟨c, rs, h1, e _ _ h2, terms_same h3 e⟩
theorem key2 {H : Hp} {b : Addr} {k : Int × Int} (h : H b = some (.tup ((kk k).map kV))) : H b = some (.tup [.int k.1, .int k.2]) := h
structure TxP (mg : Str -> Option Value) : Prop where
  isi : mg "isinstance" = none
  int : mg "int" = none
  bool : mg "bool" = none
  len : mg "len" = none
  tuple : mg "tuple" = none
  list : mg "list" = none
  range : mg "range" = none
  sorted : mg "sorted" = none
theorem Txt.p {K : W.Frag} {mg : Str -> Option Value} (T : Txt K mg) : TxP mg := ⟨T.isi, T.int, T.bool, T.len, T.tuple, T.list, T.range, T.sorted⟩
def TermK (K : W.Frag) (H : Hp) (v : V) (t : T3) : Prop := ∃ a, v = .ref a /\ SqT K H a [.int t.1, .int t.2.1, .int t.2.2]
theorem TermAt.K {K : W.Frag} {H : Hp} {v : V} {t : T3} (h : TermAt H v t) : TermK K H v t := let ⟨a, h1, h2⟩ := h; ⟨a, h1, SqT.of h2⟩
theorem termsK {K : W.Frag} {H : Hp} {xs : List V} {ts : List T3} (h : Paired (TermAt H) xs ts) : Paired (TermK K H) xs ts := L2.Paired.mapP h fun _ _ q => q.K
def Bd (ts : List T3) : Prop := ∀ t ∈ ts, (0 <= t.1 /\ t.1 <= 6) /\ 0 <= t.2.1 /\ t.2.1 <= 6
theorem sel_small {ts : List T3} {kvs : TTab} (tab : TabIs ts kvs) (b : Bd ts) : (sel kvs).length < 64 := by
  have bd : Bd (sel kvs) := fun t ht => by
    obtain ⟨h1, h2⟩ := (sel_mem tab t).mp ht
    by_cases c : ∃ u ∈ ts, k3 u = k3 t
    · obtain ⟨u, hu, e⟩ := c
      have := b u hu
      have e1 : (k3 u).1 = (k3 t).1 := by rw [e]
      have e2 : (k3 u).2 = (k3 t).2 := by rw [e]
      replace e1 : u.1 = t.1 := e1
      replace e2 : u.2.1 = t.2.1 := e2
      rw [e1, e2] at this
      exact this
    · exact absurd (h2.trans (coef_zero fun u hu e => c ⟨u, hu, e⟩)) h1
  have nd : ((sel kvs).map fun t => t.1 * 7 + t.2.1).Nodup := List.pairwise_map.mpr ((List.pairwise_map.mp (sel_keys tab)).imp_of_mem fun {x y} hx hy hne e => hne (by
    obtain ⟨⟨a1, a2⟩, a3, a4⟩ := bd x hx
    obtain ⟨⟨b1, b2⟩, b3, b4⟩ := bd y hy
    have e : x.1 * 7 + x.2.1 = y.1 * 7 + y.2.1 := e
    exact Prod.ext (show x.1 = y.1 by omega) (show x.2.1 = y.2.1 by omega)))
  have l := nd_len (n := 49) (by decide) nd fun i hi => by
    obtain ⟨t, ht, rfl⟩ := List.mem_map.mp hi
    obtain ⟨⟨a1, a2⟩, a3, a4⟩ := bd t ht
    exact ⟨by omega, by omega⟩
  rw [List.length_map] at l
  omega
theorem natB {n : Nat} (h : n < 100000) : n < sizeLine := Nat.lt_of_lt_of_le h (by decide)
def spGath (K : W.Frag) : Sp := fun vs H Q _ => ∃ (k : Kd) (a : Addr) (rs : List V) (ts : List T3), vs = [.ref a] /\ SqK k K H a rs /\ Paired (TermK K H) rs ts /\ ts.length < 100000 /\ Bd ts /\
  ∀ v L H', Same H H' -> PolyIs ts L -> L.length <= ts.length -> PolyAt H' v L -> Q v H'
theorem sel_take {kvs : TTab} {i : Nat} {p : List Key × V} (e : kvs[i]? = some p) : sel (kvs.take (i + 1)) = sel (kvs.take i) ++ (selP p).toList := by
  unfold sel
  rw [take_succ_of e, List.filterMap_append]
  congr 1
section
variable {P : Program} {w : World} {K : W.Frag} {mg : Str -> Option Value} {base : Heap}
theorem scGath : FnScope ["terms", "times_of", "i", "j", "times"] ["terms"] (defScope sGath) := ⟨rfl, rfl, rfl, by decide +kernel, rfl, by decide +kernel, by decide +kernel⟩
theorem ndG : (["key", "times"] : List Str).Nodup := by decide +kernel
theorem d_gath (T : TxP mg) (S : Src K mg "gathered" sGath ["terms"]) : Def P w K mg base 1 "gathered" ["terms"] (spGath K) := by
  refine S.def scGath (fun vs H Q E h => ?_) (fun f cdv A outer s H vs Q E hr h => ?_)
  · obtain ⟨_, _, _, _, rfl, _⟩ := h; rfl
  · obtain ⟨k, a, rs, ts, rfl, hq, ht, h64, bd, q⟩ := h
    have rl : rs.length = ts.length := Paired.length ht
    refine ⟨_, pss_cons (ps_set (i := 1) scGath.nd rfl (Or.inl rfl) pe_dnewT)
      (pss_cons (ps_for PassesOwn.never rfl (pi_seqK K k (pv 0)) (pg_tupK K 3 rfl (pgs_cons (pg_name (i := 2) scGath.nd rfl (Or.inl rfl)) (pgs_cons (pg_name (i := 3) scGath.nd rfl (Or.inl rfl)) (pgs_cons (pg_name (i := 4) scGath.nd rfl (Or.inl rfl)) pgs_nil))))
        (pss_one (ps_dput (hu_of hr) (pv 1) (pe_tup (pa_cons (pv 2) (pa_cons (pv 3) pa_nil))) (pe_op op_add (pe_dget2 (hu_of hr) (pv 1) (pe_tup (pa_cons (pv 2) (pa_cons (pv 3) pa_nil))) pe_int ⟨rfl, rfl, rfl, rfl⟩) (pv 4)) rfl)))
      (pss_one (ps_ret (pe_callTy (call_tuple_ofK K) rfl T.tuple boot_tuple' (pa_cons (pe_callB call_sortedT (by rfl) T.sorted boot_sorted' (pa_cons (pe_comp (N' := ["key", "times"]) (fr := [none, none]) (compOk_of (by rfl)) rfl (pi_ditems (pe_bm0 PySem.F.plainAttrs_dict PySem.F.slot_dict_items PySem.F.type_dict_items mt_items (pv 1)))
        (g := gTup K 2 (gCons (gName 0) (gCons (gName 1) gNil))) (fun _ _ _ _ => pg_tupK K 2 rfl (pgs_cons (pg_name (i := 0) ndG rfl (Or.inl rfl) (Or.inr rfl)) (pgs_cons (pg_name (i := 1) ndG rfl (Or.inl rfl) (Or.inr rfl)) pgs_nil)))
        (fun _ _ _ _ => pifs_one (pt_cmpR op_ne (pv 1) pe_int (nomark _)))
        (fun _ _ _ _ => pe_tup (pa_cons (pe_ix (r := rIxT K) (ix_tupK K) (pv 0) pe_int (fun _ _ => rfl)) (pa_cons (pe_ix (r := rIxT K) (ix_tupK K) (pv 0) pe_int (fun _ _ => rfl)) (pa_cons (pv 1) pa_nil))))) pa_nil)) pa_nil))))), ?_⟩
    intro d hd
    have s1 := Same.new (o := HO.dT []) hd
    have hd1 : (upd H d (.dT [])) d = some (.dT []) := upd_same
    generalize upd H d (.dT []) = H1 at s1 hd1 ⊢
    refine ⟨_, rfl, a, rfl, ⟨rs, s1.seqK hq⟩, for_seq (k := k) (K := K) (a := a) (xs := rs) (fun i σ H' => (∃ u v r, σ = [some (.ref a), some (.ref d), u, v, r]) /\ Same H H' /\ ∃ kvs, H' d = some (.dT kvs) /\ TabIs (ts.take i) kvs)
      ⟨⟨_, _, _, rfl⟩, s1, [], hd1, TabIs.nil⟩ (fun i σ H' _ z => z.2.1.seqK hq) ?_ ?_⟩
    · rintro i x σ H2 hx ⟨⟨u, v, r, rfl⟩, sm, kvs, hk, tab⟩
      obtain ⟨t, e1, b, rfl, hb⟩ := Paired.at ht hx
      refine ⟨b, _, rfl, sqT sm hb, rfl, _, _, rfl, _, _, rfl, _, _, rfl, rfl, ?_⟩
      have kl : kvs.length < 100000 := by
        have := tab.len
        rw [List.length_take] at this
        omega
      refine ⟨_, rfl, d, rfl, .inr ⟨_, .inl hk⟩, _, rfl, _, rfl, by show 2 <= sizeLine; decide, fun c hc => ?_⟩
      have s3 := Same.new (o := HO.tup [.int t.1, .int t.2.1]) hc
      have hc3 : (upd H2 c (.tup [.int t.1, .int t.2.1])) c = some (.tup ((kk (k3 t)).map kV)) := upd_same
      have hk3 := s3 _ _ hk
      have sm3 := sm.trans s3
      generalize upd H2 c (.tup [.int t.1, .int t.2.1]) = H3 at s3 hc3 hk3 sm3 ⊢
      refine ⟨_, DGet.t hk3 hc3, ?_⟩
      rw [tab.at]
      refine ⟨_, rfl, _, _, rfl, rfl, _, rfl, _, rfl, _, rfl, by show 2 <= sizeLine; decide, fun c2 hc2 => ?_⟩
      have s4 := Same.new (o := HO.tup [.int t.1, .int t.2.1]) hc2
      have hc4 : (upd H3 c2 (.tup [.int t.1, .int t.2.1])) c2 = some (.tup ((kk (k3 t)).map kV)) := upd_same
      have hk4 := s4 _ _ hk3
      have sm4 := sm3.trans s4
      generalize upd H3 c2 (.tup [.int t.1, .int t.2.1]) = H4 at s4 hc4 hk4 sm4 ⊢
      refine ⟨d, _, rfl, DPut.t hk4 hc4 (natB kl), ⟨_, _, _, rfl⟩, Same.put sm4 hd, _, upd_same, ?_⟩
      rw [take_succ_of e1]
      exact tab.put t
    · rintro σ H2 ⟨⟨u, v, r, rfl⟩, sm, kvs, hk, tab⟩
      rw [rl, List.take_length] at tab
      have kl : kvs.length < 100000 := Nat.lt_of_le_of_lt tab.len h64
      refine ⟨_, rfl, .inr (.inr (.inl ⟨rfl, .inr ⟨_, hk⟩⟩)), d, kvs, rfl, rfl, hk, fun vw hvw => ?_⟩
      have s3 := Same.new (o := viewO vw d) hvw
      refine ⟨vw, d, kvs, rfl, upd_same, s3 _ _ hk, fun o => ?_⟩
      have hf : (upd (upd H2 vw (viewO vw d)) d (.frz o (.dT kvs))) d = some (.frz o (.dT kvs)) := upd_same
      have sm3 : Same H (upd (upd H2 vw (viewO vw d)) d (.frz o (.dT kvs))) := Same.put (sm.trans s3) hd
      generalize upd (upd H2 vw (viewO vw d)) d (.frz o (.dT kvs)) = H3 at hf sm3 ⊢
      refine comp_di (fun σ => ∃ u v, σ = [u, v]) (fun i ys H' => Same H3 H' /\ Paired (TermAt H') ys (sel (kvs.take i))) ⟨_, _, rfl⟩ ⟨Same.refl _, .nil⟩ (natB kl) (fun i ys H' z => z.1 _ _ hf) ?_ ?_
      · rintro i Tp b key vv ys σ H4 N ek hT hb ⟨u, v, rfl⟩ ⟨sm4, hy⟩ hN
        obtain ⟨k2, e2⟩ := tab.val _ (List.mem_of_getElem? ek)
        injection e2 with e3 e4
        subst e3 e4
        have s5 := Same.new (o := HO.tup [.ref b, .int (coef ts k2)]) hT
        have hT5 : (upd H4 Tp (.tup [.ref b, .int (coef ts k2)])) Tp = some (.tup [.ref b, .int (coef ts k2)]) := upd_same
        have hb5 := key2 (s5 _ _ hb)
        have sm5 := sm4.trans s5
        have hy5 := terms_same hy s5
        generalize upd H4 Tp (.tup [.ref b, .int (coef ts k2)]) = H5 at s5 hT5 hb5 sm5 hy5 ⊢
        refine ⟨Tp, _, rfl, SqT.of hT5, rfl, _, _, rfl, _, _, rfl, rfl, ?_⟩
        dsimp only [gName, List.set]
        refine ⟨_, rfl, rfl, _, rfl, ?_⟩
        have e5 := sel_take ek
        rw [selP_kk] at e5
        by_cases c : coef ts k2 = 0
        · rw [decide_eq_true (show V.int (coef ts k2) = V.int 0 by rw [c])]
          rw [if_pos c, Option.toList_none, List.append_nil] at e5
          refine iteF (hN _ _ _ ⟨_, _, rfl⟩ ⟨sm5, ?_⟩ (by omega))
          rw [e5]
          exact hy5
        · rw [decide_eq_false (show ¬ V.int (coef ts k2) = V.int 0 from fun z => c (by injection z))]
          rw [if_neg c, Option.toList_some] at e5
          have j0 : atI ([.int k2.1, .int k2.2] : List V) 0 = some (.int k2.1) := atI_nat (j := 0) rfl
          have j1 : atI ([.int k2.1, .int k2.2] : List V) 1 = some (.int k2.2) := atI_nat (j := 1) rfl
          refine iteT ⟨_, rfl, b, _, _, _, rfl, rfl, SqT.of hb5, j0, _, rfl, b, _, _, _, rfl, rfl, SqT.of hb5, j1, _, rfl, by show 3 <= sizeLine; decide, fun c2 hc2 => ?_⟩
          have s6 := Same.new (o := HO.tup [.int k2.1, .int k2.2, .int (coef ts k2)]) hc2
          refine hN _ _ _ ⟨_, _, rfl⟩ ⟨sm5.trans s6, ?_⟩ (by simp)
          rw [e5]
          exact L2.Paired.snoc (terms_same hy5 s6) ⟨c2, rfl, upd_same⟩
      · rintro ys H4 ⟨sm4, hy⟩ l hl
        rw [List.take_length] at hy
        have s5 := Same.new (o := HO.lst ys) hl
        have hl5 : (upd H4 l (.lst ys)) l = some (.lst ys) := upd_same
        have hy5 := terms_same hy s5
        have sm5 := sm4.trans s5
        generalize upd H4 l (.lst ys) = H5 at s5 hl5 hy5 sm5 ⊢
        have yl : ys.length = (sel kvs).length := Paired.length hy
        have sl := sel_len tab
        have ss := sel_small tab bd
        have py : Paired (IntsAt H5) ys ((sel kvs).map l3) := by
          have : ∀ {ys : List V} {us : List T3}, Paired (TermAt H5) ys us -> Paired (IntsAt H5) ys (us.map l3) := by
            intro ys us h
            induction h with
            | nil => exact .nil
            | cons r _ ih => exact .cons (let ⟨a, e1, e2⟩ := r; ⟨a, e1, e2⟩) ih
          exact this hy5
        refine ⟨l, ys, _, rfl, SqL.of hl5, by omega, py, fun ks hks => ?_, fun l2 rs' kss' p1 p2 p3 hl2 => ?_⟩
        · obtain ⟨t, _, rfl⟩ := List.mem_map.mp hks
          intro z
          cases z
        · obtain ⟨L, rfl, pL, ll⟩ := poly_sorted tab p2 p3
          have s6 := Same.new (o := HO.lst rs') hl2
          refine ⟨l2, rs', rfl, .inl ⟨SqL.of upd_same, fun c hc => ?_⟩⟩
          have s7 := Same.new (o := HO.tup rs') hc
          have pt : Paired (TermAt H5) rs' L := by
            have : ∀ {rs : List V} {us : List T3}, Paired (IntsAt H5) rs (us.map l3) -> Paired (TermAt H5) rs us := by
              intro rs us
              induction us generalizing rs with
              | nil => intro h; cases h; exact .nil
              | cons t us ih =>
                intro h
                rw [List.map_cons] at h
                cases h with
                | cons r t => exact .cons (let ⟨a, e1, e2⟩ := r; ⟨a, e1, e2⟩) (ih t)
            exact this p1
          exact q _ L _ ((sm3.trans sm5).trans (s6.trans s7)) pL ll ⟨c, rs', rfl, upd_same, terms_same pt (s6.trans s7)⟩
end
def trT (n : Int) (ps : List (Int × Int)) (ord : List Int) : List T3 := (treesP n ps).map fun t => (((linP n ps t ord).length : Int), ((loutP n ps t ord).length : Int), 1)
def Deg (d : Int) (ts : List T3) : Prop := ∀ t ∈ ts, (0 <= t.1 /\ t.1 <= d) /\ 0 <= t.2.1 /\ t.2.1 <= d
theorem bd_deg {e : Int} {ts : List T3} (h : Deg e ts) (h6 : e <= 6) : Bd ts := fun t ht => by
  obtain ⟨⟨a, b⟩, c, d⟩ := h t ht
  exact ⟨⟨a, by lia⟩, c, by lia⟩
def spByT (K : W.Frag) : Sp := fun vs H Q _ => ∃ (kd : Kd) (wv o : V) (n : Int) (ps : List (Int × Int)) (ord : List Int), vs = [wv, o] /\ WebAt H wv n ps /\ WebOk n ps /\ ps.length <= 6 /\ OrdAt kd H o ps.length ord /\
  ∀ v L H', Same H H' -> PolyIs (trT n ps ord) L -> PolyAt H' v L -> Q v H'
theorem tr_deg {n : Int} {ps : List (Int × Int)} (ok : WebOk n ps) (h6 : ps.length <= 6) (ord : List Int) : Deg ((6 : Nat) : Int) (trT n ps ord) := by
  intro u hu
  obtain ⟨t, ht, rfl⟩ := List.mem_map.mp hu
  have TR := treeP_of ok ht
  have l1 : (t.length : Int) <= ps.length := nd_len (by omega) (TR.up.imp fun h => by omega) TR.ks
  have l2 : (linP n ps t ord).length <= t.length := List.length_filter_le _ _
  have l3 : (loutP n ps t ord).length <= (ups (ps.length : Int)).length := List.length_filter_le _ _
  rw [ups_len] at l3
  exact ⟨⟨by show (0 : Int) <= ((linP n ps t ord).length : Int); omega, by show ((linP n ps t ord).length : Int) <= _; omega⟩, by show (0 : Int) <= ((loutP n ps t ord).length : Int); omega, by show ((loutP n ps t ord).length : Int) <= _; omega⟩
section
variable {P : Program} {w : World} {K : W.Frag} {mg : Str -> Option Value} {base : Heap}
theorem scByT : FnScope ["web", "order", "told", "trees"] ["web", "order"] (defScope sByT) := ⟨rfl, rfl, rfl, by decide +kernel, rfl, by decide +kernel, by decide +kernel⟩
theorem ndTTW : (["tree", "told", "web"] : List Str).Nodup := by decide +kernel
theorem d_byt (T : Txt K mg) (S : SrcD K mg "by_trees" sByT ["web", "order"]) (DO : Def P w K mg base 3 "told_order" ["web", "order"] (spTold K)) (DA : Def P w K mg base 4 "all_trees" ["web"] (spAT K)) (DI : DefD P w K mg base 4 "inner_ties" ["web", "tree", "order"] (spTies K innP)) (DU : DefD P w K mg base 4 "outer_ties" ["web", "tree", "order"] (spTies K outP)) (DG : Def P w K mg base 1 "gathered" ["terms"] (spGath K)) : DefD P w K mg base 5 "by_trees" ["web", "order"] (spByT K) := by
  refine S.defX scByT (fun vs H Q E h => ?_) (fun f cdv A outer s H vs Q E hr h => ?_)
  · obtain ⟨_, _, _, _, _, _, rfl, _⟩ := h; rfl
  · obtain ⟨kd, wv, o, n, ps, ord, rfl, W, ok, h6, hord, q⟩ := h
    obtain ⟨⟨n1, n9⟩, hb, h8⟩ := id ok
    have hr1 : Room 1 _ := hr.mono (by decide)
    have hr2 : Room 2 _ := hr.mono (by decide)
    have hr3 : Room 3 _ := hr.mono (by decide)
    refine ⟨_, PSs.nox (pss_cons (ps_set (i := 2) scByT.nd rfl (Or.inr rfl) (pe_def DO hr3 rfl (pa_cons (pv 0) (pa_cons (pv 1) pa_nil))))
      (pss_cons (ps_set (i := 3) scByT.nd rfl (Or.inl rfl) (pe_def DA hr rfl (pa_cons (pv 0) pa_nil)))
      (pss_one (ps_ret (pe_def DG hr1 rfl (pa_cons (pe_comp (N' := ["tree", "told", "web"]) (fr := [none, some 2, some 0]) (compOk_of (by rfl)) rfl (pi_seqK K .l (pv 3))
        (fun _ _ _ _ => pg_name (i := 0) ndTTW rfl (Or.inl rfl) (Or.inr rfl)) (fun _ _ _ _ => pifs_nil)
        (fun _ _ _ _ => pe_tup (pa_cons (pe_callB (r := rLenSq K) (call_lenK K) (by rfl) T.len PySem.boot_len (pa_cons (pe_defD DI hr rfl (pa_cons (pv 2) (pa_cons (pv 0) (pa_cons (pv 1) pa_nil)))) pa_nil)) (pa_cons (pe_callB (r := rLenSq K) (call_lenK K) (by rfl) T.len PySem.boot_len (pa_cons (pe_defD DU hr rfl (pa_cons (pv 2) (pa_cons (pv 0) (pa_cons (pv 1) pa_nil)))) pa_nil)) (pa_cons pe_int pa_nil))))) pa_nil)))))), ?_⟩
    have pm := hord.perm
    refine ⟨_, rfl, _, rfl, kd, wv, o, n, ps, ord, rfl, W, h8, hord, fun td H1 s1 htd => ?_⟩
    refine ⟨_, rfl, wv, n, ps, rfl, W.same s1, ok, fun g ys H2 s2 hgN hg hy => ?_⟩
    have s12 := s1.trans s2
    have htd2 := htd.same s2
    have yl : ys.length = (treesP n ps).length := Paired.length hy
    have tl : (treesP n ps).length <= 300 := by
      unfold treesP withP
      exact Nat.le_trans (List.length_filter_le _ _) (Nat.le_trans (List.length_filter_le _ _) (allP_len h8))
    refine ⟨_, rfl, g, rfl, ⟨_, SqL.of hg⟩, comp_seq (k := .l) (a := g) (xs := ys) (fun σ => ∃ u, σ = [u, some (.ref td), some wv]) (fun j zs H3 => Same H2 H3 /\ Paired (TermAt H3) zs ((trT n ps ord).take j)) ⟨_, rfl⟩ ⟨Same.refl _, .nil⟩ (line300 (by omega)) (fun j zs H3 _ z => SqL.of (z.1 _ _ hg)) ?_ ?_⟩
    · rintro j x zs σ H3 N hx ⟨u, rfl⟩ ⟨s3, hz⟩ hN
      obtain ⟨t, et, tr, rfl, htr⟩ := Paired.at hy hx
      have tin := List.mem_of_getElem? et
      have TR := treeP_of ok tin
      have tl8 : t.length <= 8 := by
        have : (t.length : Int) <= ps.length := nd_len (by omega) (TR.up.imp fun h => by omega) TR.ks
        omega
      have e3 : (trT n ps ord)[j]? = some (((linP n ps t ord).length : Int), ((loutP n ps t ord).length : Int), 1) := by
        unfold trT
        rw [List.getElem?_map, et]
        rfl
      dsimp only [gName, List.set]
      refine yesT ⟨_, rfl, _, rfl, _, rfl, .t, wv, .ref td, tr, n, ps, t, ord, rfl, W.same (s12.trans s3), ok, SqT.of (s3 _ _ htr), TR.ks, tl8, .inr ⟨td, rfl, htd2.same s3, pm⟩, fun g1 G1 r1 hg1 => ?_⟩
      refine ⟨g1, _, rfl, .inr (SqT.of hg1), ?_⟩
      have r01 := s3.trans r1
      refine ⟨_, rfl, _, rfl, _, rfl, .t, wv, .ref td, tr, n, ps, t, ord, rfl, W.same (s12.trans r01), ok, SqT.of (r01 _ _ htr), TR.ks, tl8, .inr ⟨td, rfl, htd2.same r01, pm⟩, fun g2 G2 r2 hg2 => ?_⟩
      refine ⟨g2, _, rfl, .inr (SqT.of hg2), by show 3 <= sizeLine; decide, fun p hp => ?_⟩
      rw [List.length_map, List.length_map, inn_eq ok TR pm, out_eq ok TR]
      have s5 := r2.trans (Same.new (o := HO.tup [.int ((linP n ps t ord).length : Int), .int ((loutP n ps t ord).length : Int), .int 1]) hp)
      refine hN _ _ _ ⟨_, rfl⟩ ⟨r01.trans s5, ?_⟩ (by simp)
      rw [take_succ_of e3]
      exact L2.Paired.snoc (terms_same hz (r1.trans s5)) ⟨p, rfl, upd_same⟩
    · rintro zs H3 ⟨s3, hz⟩ p hp
      have e4 : ys.length = (trT n ps ord).length := by unfold trT; rw [List.length_map, yl]
      rw [e4, List.take_length] at hz
      have s4 := Same.new (o := HO.lst zs) hp
      refine ⟨.l, p, zs, trT n ps ord, rfl, SqL.of upd_same, termsK (terms_same hz s4), by omega, bd_deg (tr_deg ok h6 ord) (by decide), fun x L H5 s5 pi5 pl5 pa5 => ?_⟩
      exact q x L H5 (s12.trans (s3.trans (s4.trans s5))) pi5 pa5
end
theorem cut_last (xs : List V) (z : V) : cutV (xs ++ [z]) none (some (-1)) = xs /\ ¬ (HT.sIx (xs ++ [z]).length 0 none = 0 /\ HT.sIx (xs ++ [z]).length (xs ++ [z]).length (some (-1)) = (xs ++ [z]).length) := by
  have l : (xs ++ [z]).length = xs.length + 1 := by simp
  have e : HT.sIx (xs ++ [z]).length (xs ++ [z]).length (some (-1)) = xs.length := by
    rw [l]
    show (if (-1 : Int) < 0 then ((-1 : Int) + ((xs.length + 1 : Nat) : Int)).toNat else min (-1 : Int).toNat (xs.length + 1)) = _
    rw [if_pos (by decide)]
    lia
  constructor
  · unfold cutV
    rw [e, show HT.sIx (xs ++ [z]).length 0 none = 0 from rfl, List.drop_zero, Nat.sub_zero, List.take_left' rfl]
  · rw [e, l]
    lia
def spRankWF (K : W.Frag) : Sp := fun vs H Q _ => ∃ (wv : V) (n : Int) (ps : List (Int × Int)), vs = [wv] /\ WebAt H wv n ps /\ WebOk n ps /\ ∀ H', Same H H' -> Q (.int (rkAll n ps)) H'
def spNeed (K : W.Frag) : Sp := fun vs H Q _ => ∃ (wv : V) (ta aa : Addr) (n : Int) (ps : List (Int × Int)) (t ah : List Int), vs = [wv, .ref ta, .ref aa] /\ WebAt H wv n ps /\ WebOk n ps /\ SqT K H ta (t.map V.int) /\ SqT K H aa (ah.map V.int) /\ Ks ps.length t /\ Ks ps.length ah /\ t.length <= 8 /\ ah.length <= 8 /\
  ∀ H', Same H H' -> Q (.bl (decide (rkP n ps (t ++ ah) < rkAll n ps))) H'
def spTreeOf (K : W.Frag) : Sp := fun vs H Q _ => ∃ (kd : Kd) (wv o : V) (pk : Addr) (n : Int) (ps : List (Int × Int)) (pick ord : List Int), vs = [wv, .ref pk, o] /\ WebAt H wv n ps /\ WebOk n ps /\ SqT K H pk (pick.map V.int) /\ OrdAt kd H o ps.length ord /\
  ∀ g H', Same H H' -> H' g = some (.tup ((treeO n ps pick ord).map V.int)) -> Q (.ref g) H'
section
variable {P : Program} {w : World} {K : W.Frag} {mg : Str -> Option Value} {base : Heap}
theorem scRankWF : FnScope ["web"] ["web"] (defScope sRankW) := ⟨rfl, rfl, rfl, by decide +kernel, rfl, by decide +kernel, by decide +kernel⟩
theorem d_rankwF (S : Src K mg "rank_of_web" sRankW ["web"]) (DP : Def P w K mg base 1 "whole_pick" ["web"] spWPF) (DR : Def P w K mg base 2 "rank_of" ["web", "pick"] (spRank K)) : Def P w K mg base 3 "rank_of_web" ["web"] (spRankWF K) := by
  refine S.def scRankWF (fun vs H Q E h => ?_) (fun f cdv A outer s H vs Q E hr h => ?_)
  · obtain ⟨_, _, _, rfl, _⟩ := h; rfl
  · obtain ⟨wv, n, ps, rfl, W, ⟨⟨n1, n9⟩, hb, hl8⟩, q⟩ := h
    have hr1 : Room 1 _ := hr.mono (by decide)
    have hr2 : Room 2 _ := hr.mono (by decide)
    refine ⟨_, pss_one (ps_ret (pe_def DR hr2 rfl (pa_cons (pv 0) (pa_cons (pe_def DP hr1 rfl (pa_cons (pv 0) pa_nil)) pa_nil)))), ?_⟩
    refine ⟨_, rfl, _, rfl, wv, n, ps, rfl, W, hl8, fun t H1 s1 ht1 => ?_⟩
    exact ⟨wv, t, n, ps, ups ps.length, rfl, W.same s1, n1, n9, hb, FzT.sq ht1, ups_ks _, fun H2 s2 => q H2 (s1.trans s2)⟩
theorem scNeeded : FnScope ["web", "tree", "ahead"] ["web", "tree", "ahead"] (defScope sNeeded) := ⟨rfl, rfl, rfl, by decide +kernel, rfl, by decide +kernel, by decide +kernel⟩
theorem d_needed (T : Txt K mg) (S : Src K mg "is_needed" sNeeded ["web", "tree", "ahead"]) (DR : Def P w K mg base 2 "rank_of" ["web", "pick"] (spRank K)) (DW : Def P w K mg base 3 "rank_of_web" ["web"] (spRankWF K)) : Def P w K mg base 4 "is_needed" ["web", "tree", "ahead"] (spNeed K) := by
  refine S.def scNeeded (fun vs H Q E h => ?_) (fun f cdv A outer s H vs Q E hr h => ?_)
  · obtain ⟨_, _, _, _, _, _, _, rfl, _⟩ := h; rfl
  · obtain ⟨wv, ta, aa, n, ps, t, ah, rfl, W, ok, hta, haa, kt, ka, tl, al, q⟩ := h
    obtain ⟨⟨n1, n9⟩, hb, h8⟩ := id ok
    have hr2 : Room 2 _ := hr.mono (by decide)
    have hr3 : Room 3 _ := hr.mono (by decide)
    refine ⟨_, pss_one (ps_ret (pe_cmpR op_lt (pe_def DR hr2 rfl (pa_cons (pv 0) (pa_cons (pe_callTy (call_tuple_ofK K) rfl T.tuple boot_tuple' (pa_cons (pe_callB call_sortedTI (by rfl) T.sorted boot_sorted' (pa_cons (pe_op op_catS (pv 1) (pv 2)) pa_nil)) pa_nil)) pa_nil))) (pe_def DW hr3 rfl (pa_cons (pv 0) pa_nil)) (nomark _))), ?_⟩
    refine ⟨_, rfl, _, rfl, _, rfl, ta, aa, _, _, rfl, rfl, hta, haa, ?_, fun p H1 s1 hp => ?_⟩
    · rw [List.length_map, List.length_map]
      exact Nat.le_of_lt (line300 (by lia))
    rw [<- List.map_append] at hp
    refine ⟨p, t ++ ah, rfl, hp, by rw [List.length_append]; lia, fun l ms pm um hl => ?_⟩
    have s2 := s1.trans (Same.new (o := HO.lst (ms.map V.int)) hl)
    have h2 : (upd H1 l (.lst (ms.map V.int))) l = some (.lst (ms.map V.int)) := upd_same
    generalize upd H1 l (.lst (ms.map V.int)) = H2 at s2 h2 ⊢
    refine ⟨l, _, rfl, .inl ⟨SqL.of h2, fun t3 ht3 => ?_⟩⟩
    have s3 := s2.trans (Same.new (o := HO.tup (ms.map V.int)) ht3)
    have h3 : (upd H2 t3 (.tup (ms.map V.int))) t3 = some (.tup (ms.map V.int)) := upd_same
    generalize upd H2 t3 (.tup (ms.map V.int)) = H3 at s3 h3 ⊢
    have km : Ks ps.length ms := fun k hk => ks_app kt ka k (pm.mem_iff.mp hk)
    refine ⟨wv, t3, n, ps, ms, rfl, W.same s3, n1, n9, hb, SqT.of h3, km, fun H4 s4 => ?_⟩
    refine ⟨_, rfl, wv, n, ps, rfl, W.same (s3.trans s4), ok, fun H5 s5 => ⟨_, _, rfl, rfl, ?_⟩⟩
    have e : rkP n ps ms = rkP n ps (t ++ ah) := (rank_ok n1 n9 hb).same km (ks_app kt ka) fun k => pm.mem_iff
    have q' := q H5 ((s3.trans s4).trans s5)
    rw [<- e] at q'
    exact q'
theorem scTreeOf : FnScope ["web", "pick", "order", "ahead", "tree", "k"] ["web", "pick", "order"] (defScope sTreeOf) := ⟨rfl, rfl, rfl, by decide +kernel, rfl, by decide +kernel, by decide +kernel⟩
theorem d_treeof (T : Txt K mg) (S : SrcD K mg "tree_of" sTreeOf ["web", "pick", "order"]) (DT : Def P w K mg base 3 "told_order" ["web", "order"] (spTold K)) (DN : Def P w K mg base 4 "is_needed" ["web", "tree", "ahead"] (spNeed K)) (DH : Def P w K mg base 1 "heads_of" ["web", "pick"] (spHeads K)) (DA : Def P w K mg base 1 "leads_across" ["web", "heads", "k"] (spAcross K)) : DefD P w K mg base 5 "tree_of" ["web", "pick", "order"] (spTreeOf K) := by
  refine SrcD.defX S scTreeOf (fun vs H Q E h => ?_) (fun f cdv A outer s H vs Q E hr h => ?_)
  · obtain ⟨_, _, _, _, _, _, _, _, rfl, _⟩ := h; rfl
  · obtain ⟨kd, wv, o, pk, n, ps, pick, ord, rfl, W, ok, hpk, ho, q⟩ := h
    obtain ⟨⟨n1, n9⟩, hb, h8⟩ := id ok
    have RO := rank_ok n1 n9 hb
    have hr1 : Room 1 _ := hr.mono (by decide)
    have hr2 : Room 2 _ := hr.mono (by decide)
    have ol : ord.length <= 8 := by rw [ho.perm.length_eq, ups_len]; lia
    refine ⟨_, PSs.nox (pss_cons (ps_set (i := 3) scTreeOf.nd rfl (Or.inl rfl) (pe_def DT (hr.mono (by decide)) rfl (pa_cons (pv 0) (pa_cons (pv 2) pa_nil))))
      (pss_cons (ps_set (i := 4) scTreeOf.nd rfl (Or.inl rfl) (pe_tup pa_nil))
      (pss_cons (ps_while PassesOwn.never (pt_truth (pv 3) (fun _ => rfl))
        (pss_cons (ps_set (i := 5) scTreeOf.nd rfl (Or.inl rfl) (pe_ix (ix_tupK K) (pv 3) (pe_un un_neg pe_int) (fun _ _ => rfl)))
        (pss_cons (ps_set (i := 3) scTreeOf.nd rfl (Or.inl rfl) (pe_slice (sl_tupK K) (pv 3) po_none (po_some (pe_un un_neg pe_int))))
        (pss_one (ps_if (PW.pt (pw_or (pt_val (pe_def DN hr rfl (pa_cons (pv 0) (pa_cons (pv 4) (pa_cons (pv 3) pa_nil))))) (pw_or1 (PW.pt (pw_and (pt_cmpR op_in_seq (pv 5) (pv 1) rfl) (pw_and1 (pt_val (pe_def DA hr1 rfl (pa_cons (pv 0) (pa_cons (pe_def DH hr1 rfl (pa_cons (pv 0) (pa_cons (pv 4) pa_nil))) (pa_cons (pv 5) pa_nil)))))))))))
          (pss_one (ps_set (i := 4) scTreeOf.nd rfl (Or.inl rfl) (pe_callTy (call_tuple_ofK K) rfl T.tuple boot_tuple' (pa_cons (pe_callB call_sortedTI (by rfl) T.sorted boot_sorted' (pa_cons (pe_op op_catS (pv 4) (pe_tup (pa_cons (pv 5) pa_nil))) pa_nil)) pa_nil)))) pss_nil)))))
      (pss_one (ps_ret (pv 4)))))), ?_⟩
    refine ⟨_, rfl, _, rfl, kd, wv, o, n, ps, ord, rfl, W, h8, ho, fun t1 H1 s1 h1 => ?_⟩
    dsimp only [List.set]
    refine ⟨Nat.zero_le _, fun e he => ?_⟩
    have s2 := s1.trans (Same.new (o := HO.tup []) he)
    have h2 : (upd H1 e (.tup [])) e = some (.tup (([] : List Int).map V.int)) := upd_same
    have ht2 := h1.same (Same.new (o := HO.tup []) he)
    generalize upd H1 e (.tup []) = H2 at s2 h2 ht2 ⊢
    dsimp only [List.set]
    refine ⟨fun m σ H' => ∃ (aa ta : Addr) (ah t : List Int) (u : Option V), m = ah.length /\ σ = [some wv, some (.ref pk), some o, some (.ref aa), some (.ref ta), u] /\ Same H H' /\ SqT K H' aa (ah.map V.int) /\ H' ta = some (.tup (t.map V.int)) /\ WalkT ps.length (rkP n ps) (rkAll n ps) ah.reverse t /\ trG ps.length (rkP n ps) (rkAll n ps) pick ah.reverse t = treeO n ps pick ord,
      ⟨_, t1, e, ord, [], _, rfl, rfl, s2, FzT.sq ht2, h2, walk0 ok ho.perm, rfl⟩, ?_⟩
    rintro m σ H3 ⟨aa, ta, ah, t, u, rfl, rfl, s3, haa, hta, Wk, eT⟩
    refine ⟨_, rfl, _, .inr (.inl ⟨_, haa, rfl⟩), ?_⟩
    rcases List.eq_nil_or_concat ah with rfl | ⟨ah', k, e1⟩
    · refine iteF ⟨_, rfl, q ta H3 s3 ?_⟩
      rw [<- eT]
      exact hta
    · have e1 : ah = ah' ++ [k] := by rw [e1, List.concat_eq_append]
      subst e1
      have er : (ah' ++ [k]).reverse = k :: ah'.reverse := by rw [List.reverse_append]; rfl
      rw [er] at Wk eT
      have em : (ah' ++ [k]).map V.int = ah'.map V.int ++ [V.int k] := by rw [List.map_append]; rfl
      have ez : (!((ah' ++ [k]).map V.int).isEmpty) = true := by rw [em]; simp
      rw [ez]
      refine iteT ⟨fun σ' H' => ∃ (aa ta : Addr) (t : List Int) (u : Option V), σ' = [some wv, some (.ref pk), some o, some (.ref aa), some (.ref ta), u] /\ Same H H' /\ SqT K H' aa (ah'.map V.int) /\ H' ta = some (.tup (t.map V.int)) /\ WalkT ps.length (rkP n ps) (rkAll n ps) ah'.reverse t /\ trG ps.length (rkP n ps) (rkAll n ps) pick ah'.reverse t = treeO n ps pick ord,
        fun σ' H' ⟨aa, ta, t, u, r1, r2, r3, r4, r5, r6⟩ => ⟨_, by rw [List.length_append]; show ah'.length < ah'.length + 1; lia, aa, ta, ah', t, u, rfl, r1, r2, r3, r4, r5, r6⟩, ?_⟩
      have km := Wk.kr k List.mem_cons_self
      have k1 := ks_one km.1 km.2
      have ka : Ks ps.length ah' := fun x hx => Wk.kr x (List.mem_cons_of_mem _ (List.mem_reverse.mpr hx))
      have tl : t.length <= 8 := by have := nd_len (by lia) (nd_of_up Wk.up) Wk.kt; lia
      have al : ah'.length <= 8 := by
        have := nd_len (n := (ps.length : Int)) (by lia) (List.nodup_cons.mp Wk.nd).2 fun x hx => ka x (List.mem_reverse.mp hx)
        rw [List.length_reverse] at this
        lia
      have al2 : atI ((ah' ++ [k]).map V.int) (-1) = some (.int k) := by rw [em]; exact atI_last _ _
      refine ⟨_, rfl, _, rfl, aa, _, _, _, rfl, rfl, haa, al2, ?_⟩
      dsimp only [List.set]
      obtain ⟨ec, nw⟩ := cut_last (ah'.map V.int) (.int k)
      rw [<- em] at ec nw
      refine ⟨_, rfl, _, rfl, _, rfl, aa, _, rfl, haa, nw, fun p4 hp4 => ?_⟩
      rw [ec]
      have s4 := Same.new (o := HO.tup (ah'.map V.int)) hp4
      have h4 : (upd H3 p4 (.tup (ah'.map V.int))) p4 = some (.tup (ah'.map V.int)) := upd_same
      have hta4 := s4 _ _ hta
      have s34 := s3.trans s4
      generalize upd H3 p4 (.tup (ah'.map V.int)) = H4 at s34 h4 hta4 ⊢
      dsimp only [List.set]
      have en : decide (rkP n ps (t ++ ah') < rkAll n ps) = decide (rkP n ps (t ++ ah'.reverse) < rkAll n ps) := by
        have := RO.same (X := t ++ ah') (Y := t ++ ah'.reverse) (ks_app Wk.kt ka) (ks_app Wk.kt fun x hx => ka x (List.mem_reverse.mp hx)) fun x => by rw [List.mem_append, List.mem_append, List.mem_reverse]
        rw [this]
      have ea : apart (hdF ps (ups n) t) (tieN ps k) = !decide (rkP n ps (t ++ [k]) = rkP n ps t) := by
        have := c_snoc n1 hb Wk.kt km.1 km.2
        unfold apart
        rw [rkP_c, rkP_c, this]
        congr 1
        rw [decide_eq_decide]
        split <;> lia
      have yes : ∀ H5, Same H4 H5 -> condT (rkP n ps) (rkAll n ps) pick t ah'.reverse k = true -> ∀ (ta' : Addr) (H6 : Hp), Same H5 H6 -> H6 ta' = some (.tup ((insU ps.length t k).map V.int)) -> ∃ (aa ta : Addr) (t : List Int) (u : Option V), [some wv, some (.ref pk), some o, some (.ref p4), some (.ref ta'), some (.int k)] = [some wv, some (.ref pk), some o, some (.ref aa), some (.ref ta), u] /\ Same H H6 /\ SqT K H6 aa (ah'.map V.int) /\ H6 ta = some (.tup (t.map V.int)) /\ WalkT ps.length (rkP n ps) (rkAll n ps) ah'.reverse t /\ trG ps.length (rkP n ps) (rkAll n ps) pick ah'.reverse t = treeO n ps pick ord := fun H5 s5 c ta' H6 s6 h6 => by
        have St := Wk.step RO (pick := pick)
        rw [if_pos c] at St
        refine ⟨p4, ta', insU ps.length t k, _, rfl, s34.trans (s5.trans s6), SqT.of ((s5.trans s6) _ _ h4), h6, St, ?_⟩
        rw [<- eT]
        show _ = trG _ _ _ _ _ (if condT _ _ _ _ _ _ = true then _ else _)
        rw [if_pos c]
      have no : ∀ H5, Same H4 H5 -> condT (rkP n ps) (rkAll n ps) pick t ah'.reverse k = false -> ∃ (aa ta' : Addr) (t : List Int) (u : Option V), [some wv, some (.ref pk), some o, some (.ref p4), some (.ref ta), some (.int k)] = [some wv, some (.ref pk), some o, some (.ref aa), some (.ref ta'), u] /\ Same H H5 /\ SqT K H5 aa (ah'.map V.int) /\ H5 ta' = some (.tup (t.map V.int)) /\ WalkT ps.length (rkP n ps) (rkAll n ps) ah'.reverse t /\ trG ps.length (rkP n ps) (rkAll n ps) pick ah'.reverse t = treeO n ps pick ord := fun H5 s5 c => by
        have St := Wk.step RO (pick := pick)
        rw [if_neg (by rw [c]; decide)] at St
        refine ⟨p4, ta, t, _, rfl, s34.trans s5, SqT.of (s5 _ _ h4), s5 _ _ hta4, St, ?_⟩
        rw [<- eT]
        show _ = trG _ _ _ _ _ (if condT _ _ _ _ _ _ = true then _ else _)
        rw [if_neg (by rw [c]; decide)]
      have sorted : ∀ ms : List Int, ms.Perm (t ++ [k]) -> ms.Pairwise (· <= ·) -> ms = insU ps.length t k := fun ms pm um => by
        have kn : k ∉ t := fun z => Wk.dis k z List.mem_cons_self
        have ndk : (t ++ [k]).Nodup := by
          rw [List.nodup_append]
          exact ⟨nd_of_up Wk.up, List.nodup_cons.mpr ⟨(fun z => nomatch z), .nil⟩, fun a ha b hb => by rw [List.mem_singleton.mp hb]; exact fun z => kn (by rw [<- z]; exact ha)⟩
        refine perm_up (pm.trans (same_perm ndk (nd_of_up (ins_up t k)) fun x => ?_)) um ((ins_up t k).imp fun h => by lia)
        rw [mem_ins Wk.kt km, List.mem_append, List.mem_singleton]
      refine ⟨_, rfl, _, rfl, _, rfl, wv, ta, p4, n, ps, t, ah', rfl, W.same s34, ok, SqT.of hta4, SqT.of h4, Wk.kt, ka, tl, al, fun H5 s5 => ⟨_, rfl, ?_⟩⟩
      rw [en]
      have put : ∀ H6, Same H5 H6 -> condT (rkP n ps) (rkAll n ps) pick t ah'.reverse k = true -> tAsg (tCB (fun xs H Q => ∃ p ys, xs = [.ref p] /\ ((SqL K H p ys /\ ∀ l, H l = none -> Q (.ref l) (upd H l (.tup ys))) \/ (SqT K H p ys /\ Q (.ref p) H))) (tCons (tCB (fun xs H Q => ∃ (p : Addr) (ns : List Int), xs = [.ref p] /\ SqT K H p (ns.map V.int) /\ ns.length < 64 /\ ∀ (l : Addr) (ms : List Int), ms.Perm ns -> ms.Pairwise (· <= ·) -> H l = none -> Q (.ref l) (upd H l (.lst (ms.map V.int)))) (tCons (tOp (rCatS K) (tVar 4) (tTup (tCons (tVar 5) tNil))) tNil)) tNil)) (gName 4) { nx := fun σ' H' => ∃ (aa ta : Addr) (t : List Int) (u : Option V), σ' = [some wv, some (.ref pk), some o, some (.ref aa), some (.ref ta), u] /\ Same H H' /\ SqT K H' aa (ah'.map V.int) /\ H' ta = some (.tup (t.map V.int)) /\ WalkT ps.length (rkP n ps) (rkAll n ps) ah'.reverse t /\ trG ps.length (rkP n ps) (rkAll n ps) pick ah'.reverse t = treeO n ps pick ord, rt := Q } [some wv, some (.ref pk), some o, some (.ref p4), some (.ref ta), some (.int k)] H6 := fun H6 s6 c => by
        have hta6 := (s5.trans s6) _ _ hta4
        refine ⟨_, rfl, _, rfl, by show 1 <= sizeLine; decide, fun d hd => ?_⟩
        have s7 := Same.new (o := HO.tup [.int k]) hd
        refine ⟨ta, d, _, _, rfl, rfl, SqT.of (s7 _ _ hta6), SqT.of upd_same, ?_, fun p H8 s8 hp => ?_⟩
        · rw [List.length_map]
          exact Nat.le_of_lt (line300 (show t.length + 1 <= 300 by lia))
        have hp : SqT K H8 p ((t ++ [k]).map V.int) := by rw [List.map_append]; exact hp
        refine ⟨p, t ++ [k], rfl, hp, by rw [List.length_append]; show t.length + 1 < 64; lia, fun l ms pm um hl => ?_⟩
        rw [sorted ms pm um]
        refine ⟨l, _, rfl, .inl ⟨SqL.of upd_same, fun t9 ht9 => ?_⟩⟩
        exact yes H5 s5 c t9 _ (s6.trans (s7.trans (s8.trans ((Same.new hl).trans (Same.new ht9))))) upd_same
      by_cases c1 : decide (rkP n ps (t ++ ah'.reverse) < rkAll n ps) = true
      · rw [c1]
        refine iteT (iteT (put H5 (Same.refl _) ?_))
        unfold condT
        rw [c1]
        rfl
      · have c1 : decide (rkP n ps (t ++ ah'.reverse) < rkAll n ps) = false := Bool.eq_false_iff.mpr c1
        rw [c1]
        refine iteF ⟨_, rfl, _, rfl, pk, _, rfl, .inr (sqT (s34.trans s5) hpk), rfl, all_flat _, _, rfl, ?_⟩
        rw [if_neg (by decide), in_ints]
        by_cases c2 : k ∈ pick
        · rw [decide_eq_true c2]
          refine iteT ⟨_, rfl, _, rfl, _, rfl, wv, ta, n, ps, t, rfl, W.same (s34.trans s5), n1, n9, hb, SqT.of (s5 _ _ hta4), Wk.kt, fun lh H6 s6 hlh => ⟨_, rfl, ?_⟩⟩
          refine ⟨wv, lh, n, ps, _, k, rfl, W.same (s34.trans (s5.trans s6)), hlh, by rw [hdF_len, ups_len]; lia, hb, km, _, rfl, ?_⟩
          rw [ea]
          by_cases c3 : rkP n ps (t ++ [k]) = rkP n ps t
          · rw [decide_eq_true c3]
            refine iteF (no H6 (s5.trans s6) ?_)
            unfold condT
            rw [c1, decide_eq_true c3, Bool.not_true, Bool.and_false, Bool.or_false]
          · rw [decide_eq_false c3]
            refine iteT (put H6 s6 ?_)
            unfold condT
            rw [decide_eq_true c2, decide_eq_false c3]
            simp
        · rw [decide_eq_false c2]
          refine iteF (iteF (no H5 s5 ?_))
          unfold condT
          rw [c1, decide_eq_false c2]
          rfl
end
def spOrder (K : W.Frag) : Sp := fun vs H Q _ => ∃ (a : Addr) (ns : List Int) (m : Nat), vs = [.ref a, .int m] /\ SqL K H a (ns.map V.int) /\ m <= 8 /\ ∀ (l : Addr) (ord : List Int) (H' : Hp), Same H H' -> H' l = some (.lst (ord.map V.int)) -> ord.Perm (ups m) -> Q (.ref l) H'
section
variable {P : Program} {w : World} {K : W.Frag} {mg : Str -> Option Value} {base : Heap}
theorem scOrder : FnScope ["_law_script", "_law_many", "_law_order_here", "_law_k"] ["_law_script", "_law_many"] (defScope sOrder) := ⟨rfl, rfl, rfl, by decide +kernel, rfl, by decide +kernel, by decide +kernel⟩
theorem d_order (T : Txt K mg) (S : Src K mg "_law_order" sOrder ["_law_script", "_law_many"]) (DA : Def P w K mg base 1 "_law_at" ["_law_script", "_law_k"] (spAt K)) : Def P w K mg base 2 "_law_order" ["_law_script", "_law_many"] (spOrder K) := by
  refine S.def scOrder (fun vs H Q E h => ?_) (fun f cdv A outer s H vs Q E hr h => ?_)
  · obtain ⟨_, _, _, rfl, _⟩ := h; rfl
  · obtain ⟨a, ns, m, rfl, hq, m8, q⟩ := h
    refine ⟨_, pss_cons (ps_set (i := 2) scOrder.nd rfl (Or.inl rfl) (pe_lst pa_nil))
      (pss_cons (ps_for PassesOwn.never rfl (pi_range1 rfl T.range (pa_cons (pv 1) pa_nil)) (pg_name (i := 3) scOrder.nd rfl (Or.inl rfl))
        (pss_one (ps_expr (pe_bm PySem.F.plainAttrs_list PySem.F.slot_list_insert PySem.F.type_list_insert mt_insert (pv 2) (pa_cons (pe_op op_mod (pe_def DA hr rfl (pa_cons (pv 0) (pa_cons (pe_op op_add pe_int (pv 3)) pa_nil))) (pe_op op_add (pv 3) pe_int)) (pa_cons (pv 3) pa_nil))))))
      (pss_one (ps_ret (pv 2)))), ?_⟩
    refine ⟨Nat.zero_le _, fun g hg => ?_⟩
    have s0 := Same.new (o := HO.lst []) hg
    have g0 : (upd H g (.lst [])) g = some (.lst (([] : List Int).map V.int)) := upd_same
    generalize upd H g (.lst []) = H1 at s0 g0 ⊢
    refine ⟨_, rfl, (m : Int), rfl, by lia, by lia, ?_⟩
    rw [Int.toNat_natCast]
    refine for_range (lo := 0) (n := m) (fun j σ H' => (∃ u, σ = [some (.ref a), some (.int m), some (.ref g), u]) /\ Same H H' /\ ∃ ord : List Int, H' g = some (.lst (ord.map V.int)) /\ ord.Perm (ups j)) ⟨⟨_, rfl⟩, s0, [], g0, List.Perm.refl _⟩ ?_ ?_
    · rintro j σ H2 hj ⟨⟨u, rfl⟩, sm, ord, ho, pm⟩
      have ol : ord.length = j := by rw [pm.length_eq, ups_len]; lia
      rw [show (0 : Int) + (j : Int) = (j : Int) by lia]
      dsimp only [gName, List.set]
      refine ⟨_, rfl, .inl ⟨rfl, _, SqL.of ho⟩, _, rfl, _, rfl, _, _, rfl, rfl, a, ns, 9 + j, ?_, sm.seq hq, _, rfl, _, _, rfl, rfl, _, _, rfl, rfl, (by show (0 : Int) < (j : Int) + 1; lia), _, rfl, ?_⟩
      · show [V.ref a, V.int (9 + (j : Int))] = [V.ref a, V.int ((9 + j : Nat) : Int)]
        rw [Int.natCast_add]
        rfl
      generalize ns.getD (9 + j) 0 = z0
      have hz := mod_in z0 ((j : Int) + 1) (by lia)
      obtain ⟨i, hi⟩ := Int.eq_ofNat_of_zero_le hz.1
      refine ⟨g, ord.map V.int, i, .int j, rfl, ?_, ho, by rw [List.length_map]; lia, by rw [List.length_map]; lia, ?_⟩
      · show [V.int (z0 % ((j : Int) + 1)), V.int (j : Int)] = [V.int (i : Int), V.int (j : Int)]
        rw [hi]
      refine ⟨⟨_, rfl⟩, put_fresh sm hg, ord.take i ++ (j : Int) :: ord.drop i, ?_, ?_⟩
      · rw [upd_same, List.map_append, List.map_cons, List.map_take, List.map_drop]
      · have e1 : ups ((j + 1 : Nat) : Int) = ups j ++ [(j : Int)] := by rw [show ((j + 1 : Nat) : Int) = (j : Int) + 1 by lia, ups_snoc (by lia)]
        rw [e1]
        refine List.perm_middle.trans ?_
        rw [List.take_append_drop]
        exact (pm.cons _).trans (List.perm_append_singleton _ _).symm
    · rintro σ H2 ⟨⟨u, rfl⟩, sm, ord, ho, pm⟩
      exact ⟨_, rfl, q g ord H2 sm ho pm⟩
end
def isWhole : V -> Bool
  | .int _ => true
  | _ => false
def Plain (K : W.Frag) (H : Hp) (x : V) : Prop := ∃ t, TyOf K H x t /\ ∀ C, t ≠ .ref C
theorem plain_int (K : W.Frag) (H : Hp) (i : Int) : Plain K H (.int i) := ⟨_, .int i, fun _ z => nomatch z⟩
theorem kit_whole {K : W.Frag} {H : Hp} {x : V} {t : Value} (h : TyOf K H x t) (hn : ∀ C, t ≠ .ref C) :
    (PySem.W.kitOne K t (.type "int") = some false /\ isWhole x = false) \/ (PySem.W.kitOne K t (.type "int") = some true /\ ∃ b, PySem.W.kitOne K t (.type "bool") = some b /\ isWhole x = !b) := by
  cases h with
  | non => exact .inl ⟨by first | rfl | decide +kernel, rfl⟩
  | bl b => exact .inr ⟨by first | rfl | decide +kernel, true, by rfl, rfl⟩
  | int i => exact .inr ⟨by rfl, false, by first | rfl | decide +kernel, rfl⟩
  | str x => exact .inl ⟨by first | rfl | decide +kernel, rfl⟩
  | flt x => exact .inl ⟨by first | rfl | decide +kernel, rfl⟩
  | lst e => exact .inl ⟨by first | rfl | decide +kernel, rfl⟩
  | frz e => exact .inl ⟨by first | rfl | decide +kernel, rfl⟩
  | tup e => exact .inl ⟨by first | rfl | decide +kernel, rfl⟩
  | dK e => exact .inl ⟨by first | rfl | decide +kernel, rfl⟩
  | dT e => exact .inl ⟨by first | rfl | decide +kernel, rfl⟩
  | ins => exact absurd rfl (hn _)
def spWhole (K : W.Frag) : Sp := fun vs H Q _ => ∃ x, vs = [x] /\ Plain K H x /\ Q (.bl (isWhole x)) H
theorem Plain.same {K : W.Frag} {H H' : Hp} {x : V} (h : Plain K H x) (s : Same H H') : Plain K H' x := by
  obtain ⟨t, ht, hn⟩ := h
  refine ⟨t, ?_, hn⟩
  cases ht with
  | non => exact .non
  | bl b => exact .bl b
  | int i => exact .int i
  | str x => exact .str x
  | flt x => exact .flt x
  | lst e => exact .lst (s _ _ e)
  | frz e => exact .frz (s _ _ e)
  | tup e => exact .tup (s _ _ e)
  | dK e => exact .dK (s _ _ e)
  | dT e => exact .dT (s _ _ e)
  | ins => exact absurd rfl (hn _)
section
variable {P : Program} {w : World} {K : W.Frag} {mg : Str -> Option Value} {base : Heap}
theorem scWholeP : FnScope ["thing"] ["thing"] (defScope sIsWhole) := ⟨rfl, rfl, rfl, by decide +kernel, rfl, by decide +kernel, by decide +kernel⟩
theorem d_wholeP (T : Txt K mg) (S : Src K mg "is_whole" sIsWhole ["thing"]) : Def P w K mg base 1 "is_whole" ["thing"] (spWhole K) := by
  refine S.def scWholeP (fun vs H Q E h => ?_) (fun f cdv A outer s H vs Q E hr h => ?_)
  · obtain ⟨x, rfl, _⟩ := h; rfl
  · obtain ⟨x, rfl, ⟨t, ty, hn⟩, q⟩ := h
    refine ⟨_, pss_one (ps_ret (pe_and (pe_callB (call_isiK K) (by rfl) T.isi boot_isi (pa_cons (pv 0) (pa_cons (pe_bltn (v := .ty "int") rfl T.int boot_int' rfl) pa_nil)))
      (pe_one (pe_not (pe_callB (call_isiK K) (by rfl) T.isi boot_isi (pa_cons (pv 0) (pa_cons (pe_bltn (v := .ty "bool") rfl T.bool boot_bool' rfl) pa_nil))))))), ?_⟩
    rcases kit_whole ty hn with ⟨e1, e2⟩ | ⟨e1, b, e2, e3⟩
    · rw [e2] at q
      exact ⟨_, rfl, _, _, _, _, _, rfl, rfl, ty, e1, _, rfl, iteF q⟩
    · rw [e3] at q
      exact ⟨_, rfl, _, _, _, _, _, rfl, rfl, ty, e1, _, rfl, iteT ⟨_, rfl, _, _, _, _, _, rfl, rfl, ty, e2, _, rfl, q⟩⟩
end
def HKP (kd : Kd) (H : Hp) (a : Addr) (xs : List V) : Prop := match kd with | .l => H a = some (.lst xs) | .t => H a = some (.tup xs)
theorem HKP.sq {kd : Kd} {K : W.Frag} {H : Hp} {a : Addr} {xs : List V} (h : HKP kd H a xs) : SqK kd K H a xs := by
  cases kd with
  | l => exact SqL.of h
  | t => exact SqT.of h
theorem HKP.same {kd : Kd} {H H' : Hp} {a : Addr} {xs : List V} (h : HKP kd H a xs) (s : Same H H') : HKP kd H' a xs := by
  cases kd with
  | l => exact s _ _ h
  | t => exact s _ _ h
inductive BadOrd (K : W.Frag) (H : Hp) (m : Nat) : V -> Prop
  | no {x : V} {t : Value} (h : TyOf K H x t) (nr : ∀ C, t ≠ .ref C) (hl : t ≠ .type "list") (ht : t ≠ .type "tuple") (hn : x ≠ .non) : BadOrd K H m x
  | mix {kd : Kd} {a : Addr} {xs : List V} (h : HKP kd H a xs) (pl : ∀ y ∈ xs, Plain K H y) (bad : ∃ y ∈ xs, isWhole y = false) (hl : xs.length <= 20) : BadOrd K H m (.ref a)
  | nums {kd : Kd} {a : Addr} {ns : List Int} (h : HKP kd H a (ns.map V.int)) (np : ¬ ns.Perm (ups m)) (hl : ns.length <= 20) : BadOrd K H m (.ref a)
theorem BadOrd.ne {K : W.Frag} {H : Hp} {m : Nat} {x : V} (h : BadOrd K H m x) : x ≠ .non := by
  cases h with
  | no _ _ _ _ hn => exact hn
  | mix => exact fun z => nomatch z
  | nums => exact fun z => nomatch z
theorem ty_same {K : W.Frag} {H H' : Hp} {x : V} {t : Value} (h : TyOf K H x t) (nr : ∀ C, t ≠ .ref C) (s : Same H H') : TyOf K H' x t := by
  cases h with
  | non => exact .non
  | bl b => exact .bl b
  | int i => exact .int i
  | str x => exact .str x
  | flt x => exact .flt x
  | lst e => exact .lst (s _ _ e)
  | frz e => exact .frz (s _ _ e)
  | tup e => exact .tup (s _ _ e)
  | dK e => exact .dK (s _ _ e)
  | dT e => exact .dT (s _ _ e)
  | ins => exact absurd rfl (nr _)
theorem kit_seq {K : W.Frag} {H : Hp} {x : V} {t : Value} (h : TyOf K H x t) (nr : ∀ C, t ≠ .ref C) (hl : t ≠ .type "list") (ht : t ≠ .type "tuple") {us : List Value} (r : Vals [V.ty "list", V.ty "tuple"] us) : PySem.W.kitAny K t us = some false := by
  obtain ⟨u1, u2, rfl, r1, r2⟩ := Vals.two r
  cases (show u1 = Value.type "list" from r1)
  cases (show u2 = Value.type "tuple" from r2)
  cases h with
  | lst => exact absurd rfl hl
  | frz => exact absurd rfl hl
  | tup => exact absurd rfl ht
  | ins => exact absurd rfl (nr _)
  | _ => first | rfl | decide +kernel
theorem kit_seqT {K : W.Frag} {H : Hp} {kd : Kd} {a : Addr} {xs : List V} (h : HKP kd H a xs) : ∃ t, TyOf K H (.ref a) t /\ (∀ C, t ≠ .ref C) /\ ∀ us, Vals [V.ty "list", V.ty "tuple"] us -> PySem.W.kitAny K t us = some true := by
  cases kd with
  | l => exact ⟨_, .lst h, (fun _ z => nomatch z), fun us r => kit2 K r .l⟩
  | t => exact ⟨_, .tup h, (fun _ z => nomatch z), fun us r => kit2 K r .t⟩
def spOnceB (K : W.Frag) : Sp := fun vs H Q _ => ∃ (x : V) (m : Nat), vs = [x, .int m] /\ m <= 10 /\ BadOrd K H m x /\ ∀ H', Same H H' -> Q (.bl false) H'
def spToldB3 (K : W.Frag) (CO : Addr) : Sp := fun vs H _ E => ∃ (wv y x : V) (n : Int) (ps : List (Int × Int)), vs = [wv, y, x] /\ WebAt H wv n ps /\ ps.length <= 8 /\ BadOrd K H ps.length x /\ ∀ H', Same H H' -> E (.ref CO) none H'
def spToldB (K : W.Frag) (CO : Addr) : Sp := fun vs H _ E => ∃ (wv x : V) (n : Int) (ps : List (Int × Int)), vs = [wv, x] /\ WebAt H wv n ps /\ ps.length <= 8 /\ BadOrd K H ps.length x /\ ∀ H', Same H H' -> E (.ref CO) none H'
section
variable {P : Program} {w : World} {K : W.Frag} {mg : Str -> Option Value} {base : Heap} {CS CO : Addr} {bs bo : List Value}
theorem d_onceB (T : Txt K mg) (S : Src K mg "is_each_once" sOnce ["thing", "many"]) (DI : Def P w K mg base 1 "is_whole" ["thing"] (spWhole K)) : Def P w K mg base 2 "is_each_once" ["thing", "many"] (spOnceB K) := by
  refine S.def scOnce (fun vs H Q E h => ?_) (fun f cdv A outer s H vs Q E hr h => ?_)
  · obtain ⟨_, _, rfl, _⟩ := h; rfl
  · obtain ⟨x, m, rfl, h10, hx, q⟩ := h
    obtain ⟨kd, hc⟩ : ∃ kd : Kd, (∃ t, TyOf K H x t /\ (∀ C, t ≠ .ref C) /\ t ≠ .type "list" /\ t ≠ .type "tuple") \/ ∃ (a : Addr) (xs : List V), x = .ref a /\ HKP kd H a xs /\ xs.length <= 20 /\ (∀ y ∈ xs, Plain K H y) /\ ((∃ y ∈ xs, isWhole y = false) \/ ∃ ns : List Int, xs = ns.map V.int /\ ¬ ns.Perm (ups m)) := by
      cases hx with
      | no h nr hl ht hn => exact ⟨.l, .inl ⟨_, h, nr, hl, ht⟩⟩
      | @mix kd a xs h pl bad hl => exact ⟨kd, .inr ⟨a, xs, rfl, h, hl, pl, .inl bad⟩⟩
      | @nums kd a ns h np hl => exact ⟨kd, .inr ⟨a, _, rfl, h, by rw [List.length_map]; exact hl, fun y hy => (by obtain ⟨i, _, rfl⟩ := List.mem_map.mp hy; exact plain_int K H i), .inr ⟨ns, rfl, np⟩⟩⟩
    refine ⟨_, pss_cons (ps_if (PW.pt (pw_or (pt_not (pt_val (pe_callB (r := rIsAny K) call_isAny (by rfl) T.isi boot_isi (pa_cons (pv 0) (pa_cons (pe_tup (pa_cons (pe_bltn (v := .ty "list") rfl T.list boot_list' rfl) (pa_cons (pe_bltn (v := .ty "tuple") rfl T.tuple boot_tuple' rfl) pa_nil))) pa_nil)))))
        (pw_or1 (pt_not (pt_val (pe_callB (call_all rfl) (by rfl) T.all boot_all' (pa_cons (pe_comp (N' := ["number"]) (fr := [none]) (compOk_of (by rfl)) rfl (pi_seqK K kd (pv 0))
        (fun _ _ _ _ => pg_name (i := 0) ndk rfl (Or.inl rfl) (Or.inr rfl)) (fun _ _ _ _ => pifs_nil) (fun _ _ _ _ => pe_def DI hr rfl (pa_cons (pv 0) pa_nil))) pa_nil))))))) (pss_one (ps_ret pe_bl)) pss_nil)
      (pss_one (ps_ret (pe_cmpR (op_eqLI (units66 hr)) (pe_callB (call_sortedK kd) (by rfl) T.sorted boot_sorted' (pa_cons (pv 0) pa_nil)) (pe_callTy (call_list_rng rfl) rfl T.list boot_list' (pa_cons (pe_callTy call_range1 rfl T.range boot_range' (pa_cons (pv 1) pa_nil)) pa_nil)) (nomark _)))), ?_⟩
    refine ⟨_, rfl, by show 2 <= sizeLine; decide, fun p1 hp1 => ?_⟩
    have s1 := Same.new (o := HO.tup [V.ty "list", V.ty "tuple"]) hp1
    have h1 : (upd H p1 (.tup [V.ty "list", V.ty "tuple"])) p1 = some (.tup [V.ty "list", V.ty "tuple"]) := upd_same
    generalize upd H p1 (.tup [V.ty "list", V.ty "tuple"]) = H1 at s1 h1 ⊢
    rcases hc with ⟨t, ty, nr, hl, ht⟩ | ⟨a, xs, rfl, ha, l20, pl, alt⟩
    · exact ⟨x, t, p1, _, false, rfl, SqT.of h1, ty_same ty nr s1, nr, fun us r => kit_seq ty nr hl ht r, _, rfl, iteT (q _ s1)⟩
    obtain ⟨t, ty, nr, kt⟩ := kit_seqT (K := K) (ha.same s1)
    have ha1 := ha.same s1
    refine ⟨.ref a, t, p1, _, true, rfl, SqT.of h1, ty, nr, kt, _, rfl, iteF ?_⟩
    refine ⟨_, rfl, a, rfl, ⟨_, ha1.sq⟩, comp_seq (k := kd) (a := a) (xs := xs) (fun σ => ∃ v, σ = [v]) (fun i ys H2 => Same H1 H2 /\ ys = ((xs.take i).map isWhole).map V.bl) ⟨_, rfl⟩ ⟨Same.refl _, rfl⟩ (Nat.lt_of_le_of_lt l20 (by decide)) (fun i ys H2 _ z => (ha1.same z.1).sq) ?_ ?_⟩
    · rintro i y ys σ H2 N hy ⟨u, rfl⟩ ⟨s2, rfl⟩ hN
      dsimp only [gName, List.set]
      refine yesT ⟨_, rfl, y, rfl, (pl y (List.mem_of_getElem? hy)).same (s1.trans s2), ?_⟩
      refine hN _ _ _ ⟨_, rfl⟩ ⟨s2, ?_⟩ (by simp)
      rw [take_succ_of hy, List.map_append, List.map_append]
      rfl
    · rintro ys H2 ⟨s2, rfl⟩ p2 hp2
      rw [List.take_length]
      have s3 := Same.new (o := HO.lst ((xs.map isWhole).map V.bl)) hp2
      have h3 : (upd H2 p2 (.lst ((xs.map isWhole).map V.bl))) p2 = some (.lst ((xs.map isWhole).map V.bl)) := upd_same
      generalize upd H2 p2 (.lst ((xs.map isWhole).map V.bl)) = H3 at s3 h3 ⊢
      have ha3 := ha1.same (s2.trans s3)
      have s13 := s1.trans (s2.trans s3)
      refine ⟨p2, _, rfl, SqL.of h3, _, rfl, ?_⟩
      rcases alt with ⟨y, hy, wy⟩ | ⟨ns, rfl, np⟩
      · have al : (xs.map isWhole).all id = false := by
          rw [Bool.eq_false_iff]
          intro z
          have := List.all_eq_true.mp z (isWhole y) (List.mem_map_of_mem hy)
          rw [wy] at this
          cases this
        rw [al]
        exact iteT (q _ s13)
      · have al : ((ns.map V.int).map isWhole).all id = true := by
          rw [List.all_eq_true]
          intro b hb
          obtain ⟨y, hy, rfl⟩ := List.mem_map.mp hb
          obtain ⟨i, _, rfl⟩ := List.mem_map.mp hy
          rfl
        rw [al]
        rw [List.length_map] at l20
        refine iteF ⟨_, rfl, a, ns, rfl, ha3.sq, by lia, fun l4 ms p4 u4 hl4 => ?_⟩
        have s4 := Same.new (o := HO.lst (ms.map V.int)) hl4
        have h4 : (upd H3 l4 (.lst (ms.map V.int))) l4 = some (.lst (ms.map V.int)) := upd_same
        generalize upd H3 l4 (.lst (ms.map V.int)) = H4 at s4 h4 ⊢
        refine ⟨_, rfl, _, rfl, fun p hp => ⟨p, m, rfl, upd_same, by lia, fun l hl => ?_⟩⟩
        have s5 := (Same.new (o := HO.rng 0 m) hp).trans (Same.new (o := HO.lst (upN m)) hl)
        have h5 : (upd (upd H4 p (.rng 0 m)) l (.lst (upN m))) l = some (.lst ((ups m).map V.int)) := by rw [upd_same, upN_ups]
        generalize upd (upd H4 p (.rng 0 m)) l (.lst (upN m)) = H5 at s5 h5 ⊢
        refine ⟨l4, l, ms, ups m, rfl, rfl, SqL.of (s5 _ _ h4), SqL.of h5, ?_⟩
        rw [decide_eq_false (show ¬ ms = ups m from fun z => np (by rw [<- z]; exact p4.symm))]
        exact q _ (s13.trans (s4.trans s5))
theorem d_toldB (T : Txt K mg) (ho : mg "NoOrder" = some (.ref CO)) (xo : excB K CO bo = true) (S : Src K mg "told_order" sTold ["web", "order"]) (DW : Def P w K mg base 1 "whole_pick" ["web"] spWPF) (DI : Def P w K mg base 2 "is_each_once" ["thing", "many"] (spOnceB K)) : DefQ P w K mg base 3 "told_order" ["web", "order"] (spToldB K CO) := by
  refine Src.defQ S scTold (fun vs H Q E h => ?_) (fun f cdv A outer s H vs Q E hr h => ?_)
  · obtain ⟨_, _, _, _, rfl, _⟩ := h; rfl
  · obtain ⟨wv, x, n, ps, rfl, W, h8, bo', q⟩ := h
    refine ⟨_, pss_cons (ps_if (pt_cmpR op_isN (pv 1) pe_non (nomark _)) (pss_one (ps_ret (pe_def DW (hr.mono (by lia)) rfl (pa_cons (pv 0) pa_nil)))) pss_nil)
      (pss_cons (ps_if (pt_not (pt_val (pe_def DI hr rfl (pa_cons (pv 1) (pa_cons (pe_callB (call_lenK K) (by rfl) T.len PySem.boot_len (pa_cons (pe_ix (ix_tupK K) (pv 0) pe_int (fun _ _ => rfl)) pa_nil)) pa_nil))))) (pss_one (ps_raiseQ rfl ho xo (pa_cons pe_str pa_nil))) pss_nil)
      (pss_one (ps_ret (pe_callTy call_tupleF rfl T.tuple boot_tuple' (pa_cons (pv 1) pa_nil))))), ?_⟩
    obtain ⟨c, d, zs, rfl, hc, hd, ht⟩ := W.ex
    have xl : zs.length = ps.length := Paired.length ht
    have i1 : atI ([.int n, .ref d] : List V) 1 = some (.ref d) := atI_nat (j := 1) rfl
    refine ⟨_, rfl, rfl, _, rfl, ?_⟩
    rw [decide_eq_false bo'.ne]
    exact iteF ⟨_, rfl, _, rfl, c, _, _, _, rfl, rfl, SqT.of hc, i1, d, zs, rfl, .inr (SqT.of hd), x, ps.length, by rw [xl]; rfl, by lia, bo', fun H1 s1 => ⟨_, rfl, iteT ⟨by decide, q H1 s1⟩⟩⟩
theorem d_innerB (T : Txt K mg) (S : SrcD K mg "inner_ties" sInner ["web", "tree", "order"]) (DT : DefQ P w K mg base 3 "told_order" ["web", "order"] (spToldB K CO)) (DS : Def P w K mg base 2 "swaps_of" ["web", "tree"] (spSwaps K)) (DI : Def P w K mg base 2 "is_inner" ["order", "swaps", "k"] (spIsS K (·.1) (·.2))) : DefQ P w K mg base 4 "inner_ties" ["web", "tree", "order"] (spToldB3 K CO) := by
  refine SrcD.defQ S scInner (fun vs H Q E h => ?_) (fun f cdv A outer s H vs Q E hr h => ?_)
  · obtain ⟨_, _, _, _, _, rfl, _⟩ := h; rfl
  · obtain ⟨wv, y, x, n, ps, rfl, W, h8, bo', q⟩ := h
    have hr1 : Room 1 _ := hr.mono (by decide)
    have hr2 : Room 2 _ := hr.mono (by decide)
    have hr3 : Room 3 _ := hr.mono (by decide)
    refine ⟨_, pss_cons (ps_set (i := 3) scInner.nd rfl (Or.inr rfl) (pe_defPQ DT hr rfl (pa_cons (pv 0) (pa_cons (pv 2) pa_nil))))
      (pss_cons (ps_set (i := 4) scInner.nd rfl (Or.inr rfl) (pe_def DS (hr.mono (by decide)) rfl (pa_cons (pv 0) (pa_cons (pv 1) pa_nil))))
      (pss_one (ps_ret (pe_callTy (call_tuple_ofK K) rfl T.tuple boot_tuple' (pa_cons (pe_comp (N' := ["k", "swaps", "told"]) (fr := [none, some 4, some 3]) (compOk_of (by rfl)) rfl (pi_seqK K .t (pv 1))
        (fun _ _ _ _ => pg_name (i := 0) ndkst rfl (Or.inl rfl) (Or.inr rfl)) (fun _ _ _ _ => pifs_one (pt_val (pe_def DI (hr.mono (by decide)) rfl (pa_cons (pv 2) (pa_cons (pv 1) (pa_cons (pv 0) pa_nil)))))) (fun _ _ _ _ => pv 0)) pa_nil))))), ?_⟩
    exact ⟨_, rfl, _, rfl, wv, x, n, ps, rfl, W, h8, bo', q⟩
theorem d_outerB (T : Txt K mg) (S : SrcD K mg "outer_ties" sOuter ["web", "tree", "order"]) (DT : DefQ P w K mg base 3 "told_order" ["web", "order"] (spToldB K CO)) (DS : Def P w K mg base 2 "swaps_of" ["web", "tree"] (spSwaps K)) (DW : Def P w K mg base 1 "whole_pick" ["web"] spWPF) (DI : Def P w K mg base 2 "is_outer" ["order", "swaps", "k"] (spIsS K (·.2) (·.1))) : DefQ P w K mg base 4 "outer_ties" ["web", "tree", "order"] (spToldB3 K CO) := by
  refine SrcD.defQ S scOuter (fun vs H Q E h => ?_) (fun f cdv A outer s H vs Q E hr h => ?_)
  · obtain ⟨_, _, _, _, _, rfl, _⟩ := h; rfl
  · obtain ⟨wv, y, x, n, ps, rfl, W, h8, bo', q⟩ := h
    have hr1 : Room 1 _ := hr.mono (by decide)
    have hr2 : Room 2 _ := hr.mono (by decide)
    have hr3 : Room 3 _ := hr.mono (by decide)
    refine ⟨_, pss_cons (ps_set (i := 3) scOuter.nd rfl (Or.inr rfl) (pe_defPQ DT hr rfl (pa_cons (pv 0) (pa_cons (pv 2) pa_nil))))
      (pss_cons (ps_set (i := 4) scOuter.nd rfl (Or.inr rfl) (pe_def DS (hr.mono (by decide)) rfl (pa_cons (pv 0) (pa_cons (pv 1) pa_nil))))
      (pss_cons (ps_setComp (i := 5) scOuter.nd rfl (Or.inl rfl) (N' := ["k", "tree"]) (fr := [none, some 1]) (compOk_of (by rfl)) rfl (pi_seqK K .t (pe_def DW hr1 rfl (pa_cons (pv 0) pa_nil)))
        (fun _ _ _ _ => pg_name (i := 0) ndkt rfl (Or.inl rfl) (Or.inr rfl)) (fun _ _ _ _ => pifs_one (pt_cmpR (r := rIn K true) op_notIn_seq (pv 0) (pv 1) rfl)) (fun _ _ _ _ => pv 0))
      (pss_one (ps_ret (pe_callTy (call_tuple_ofK K) rfl T.tuple boot_tuple' (pa_cons (pe_comp (N' := ["k", "swaps", "told"]) (fr := [none, some 4, some 3]) (compOk_of (by rfl)) rfl (pi_seqK K .l (pv 5))
        (fun _ _ _ _ => pg_name (i := 0) ndkst rfl (Or.inl rfl) (Or.inr rfl)) (fun _ _ _ _ => pifs_one (pt_val (pe_def DI (hr.mono (by decide)) rfl (pa_cons (pv 2) (pa_cons (pv 1) (pa_cons (pv 0) pa_nil)))))) (fun _ _ _ _ => pv 0)) pa_nil)))))), ?_⟩
    exact ⟨_, rfl, _, rfl, wv, x, n, ps, rfl, W, h8, bo', q⟩
theorem d_treeofB (T : Txt K mg) (S : SrcD K mg "tree_of" sTreeOf ["web", "pick", "order"]) (DT : DefQ P w K mg base 3 "told_order" ["web", "order"] (spToldB K CO)) (DN : Def P w K mg base 4 "is_needed" ["web", "tree", "ahead"] (spNeed K)) (DH : Def P w K mg base 1 "heads_of" ["web", "pick"] (spHeads K)) (DA : Def P w K mg base 1 "leads_across" ["web", "heads", "k"] (spAcross K)) : DefQ P w K mg base 5 "tree_of" ["web", "pick", "order"] (spToldB3 K CO) := by
  refine SrcD.defQ S scTreeOf (fun vs H Q E h => ?_) (fun f cdv A outer s H vs Q E hr h => ?_)
  · obtain ⟨_, _, _, _, _, rfl, _⟩ := h; rfl
  · obtain ⟨wv, y, x, n, ps, rfl, W, h8, bo', q⟩ := h
    have hr1 : Room 1 _ := hr.mono (by decide)
    have hr2 : Room 2 _ := hr.mono (by decide)
    have hr3 : Room 3 _ := hr.mono (by decide)
    refine ⟨_, pss_cons (ps_set (i := 3) scTreeOf.nd rfl (Or.inl rfl) (pe_defPQ DT (hr.mono (by decide)) rfl (pa_cons (pv 0) (pa_cons (pv 2) pa_nil))))
      (pss_cons (ps_set (i := 4) scTreeOf.nd rfl (Or.inl rfl) (pe_tup pa_nil))
      (pss_cons (ps_while PassesOwn.leaving (pt_truth (pv 3) (fun _ => rfl))
        (pss_cons (ps_set (i := 5) scTreeOf.nd rfl (Or.inl rfl) (pe_ix (ix_tupK K) (pv 3) (pe_un un_neg pe_int) (fun _ _ => rfl)))
        (pss_cons (ps_set (i := 3) scTreeOf.nd rfl (Or.inl rfl) (pe_slice (sl_tupK K) (pv 3) po_none (po_some (pe_un un_neg pe_int))))
        (pss_one (ps_if (PW.pt (pw_or (pt_val (pe_def DN hr rfl (pa_cons (pv 0) (pa_cons (pv 4) (pa_cons (pv 3) pa_nil))))) (pw_or1 (PW.pt (pw_and (pt_cmpR op_in_seq (pv 5) (pv 1) rfl) (pw_and1 (pt_val (pe_def DA hr1 rfl (pa_cons (pv 0) (pa_cons (pe_def DH hr1 rfl (pa_cons (pv 0) (pa_cons (pv 4) pa_nil))) (pa_cons (pv 5) pa_nil)))))))))))
          (pss_one (ps_set (i := 4) scTreeOf.nd rfl (Or.inl rfl) (pe_callTy (call_tuple_ofK K) rfl T.tuple boot_tuple' (pa_cons (pe_callB call_sortedTI (by rfl) T.sorted boot_sorted' (pa_cons (pe_op op_catS (pv 4) (pe_tup (pa_cons (pv 5) pa_nil))) pa_nil)) pa_nil)))) pss_nil)))))
      (pss_one (ps_ret (pv 4))))), ?_⟩
    exact ⟨_, rfl, _, rfl, wv, x, n, ps, rfl, W, h8, bo', q⟩
theorem d_bytB (T : Txt K mg) (S : SrcD K mg "by_trees" sByT ["web", "order"]) (DO : DefQ P w K mg base 3 "told_order" ["web", "order"] (spToldB K CO)) (DA : Def P w K mg base 4 "all_trees" ["web"] (spAT K)) (DI : DefD P w K mg base 4 "inner_ties" ["web", "tree", "order"] (spTies K innP)) (DU : DefD P w K mg base 4 "outer_ties" ["web", "tree", "order"] (spTies K outP)) (DG : Def P w K mg base 1 "gathered" ["terms"] (spGath K)) : DefQ P w K mg base 5 "by_trees" ["web", "order"] (spToldB K CO) := by
  refine SrcD.defQ S scByT (fun vs H Q E h => ?_) (fun f cdv A outer s H vs Q E hr h => ?_)
  · obtain ⟨_, _, _, _, rfl, _⟩ := h; rfl
  · obtain ⟨wv, x, n, ps, rfl, W, h8, bo', q⟩ := h
    have hr1 : Room 1 _ := hr.mono (by decide)
    have hr2 : Room 2 _ := hr.mono (by decide)
    have hr3 : Room 3 _ := hr.mono (by decide)
    refine ⟨_, pss_cons (ps_set (i := 2) scByT.nd rfl (Or.inr rfl) (pe_defPQ DO hr3 rfl (pa_cons (pv 0) (pa_cons (pv 1) pa_nil))))
      (pss_cons (ps_set (i := 3) scByT.nd rfl (Or.inl rfl) (pe_def DA hr rfl (pa_cons (pv 0) pa_nil)))
      (pss_one (ps_ret (pe_def DG hr1 rfl (pa_cons (pe_comp (N' := ["tree", "told", "web"]) (fr := [none, some 2, some 0]) (compOk_of (by rfl)) rfl (pi_seqK K .l (pv 3))
        (fun _ _ _ _ => pg_name (i := 0) ndTTW rfl (Or.inl rfl) (Or.inr rfl)) (fun _ _ _ _ => pifs_nil)
        (fun _ _ _ _ => pe_tup (pa_cons (pe_callB (r := rLenSq K) (call_lenK K) (by rfl) T.len PySem.boot_len (pa_cons (pe_defD DI hr rfl (pa_cons (pv 2) (pa_cons (pv 0) (pa_cons (pv 1) pa_nil)))) pa_nil)) (pa_cons (pe_callB (r := rLenSq K) (call_lenK K) (by rfl) T.len PySem.boot_len (pa_cons (pe_defD DU hr rfl (pa_cons (pv 2) (pa_cons (pv 0) (pa_cons (pv 1) pa_nil)))) pa_nil)) (pa_cons pe_int pa_nil))))) pa_nil))))), ?_⟩
    exact ⟨_, rfl, _, rfl, wv, x, n, ps, rfl, W, h8, bo', q⟩
end
inductive D0
  | fl (v : V)
  | di
  | tu (xs : List V)
  | ls (xs : List V)
inductive D1
  | ob (d : D0)
  | ll (ds : List D0)
def Hold0 (H : Hp) (x : V) : D0 -> Prop
  | .fl v => x = v /\ flatV v = true
  | .di => ∃ a, x = .ref a /\ H a = some (.dK [])
  | .tu xs => ∃ a, x = .ref a /\ H a = some (.tup xs) /\ ∀ z ∈ xs, flatV z = true
  | .ls xs => ∃ a, x = .ref a /\ H a = some (.lst xs) /\ ∀ z ∈ xs, flatV z = true
def Hold1 (H : Hp) (x : V) : D1 -> Prop
  | .ob d => Hold0 H x d
  | .ll ds => ∃ a ys, x = .ref a /\ H a = some (.lst ys) /\ Paired (Hold0 H) ys ds
theorem Hold0.same {H H' : Hp} {x : V} {d : D0} (h : Hold0 H x d) (s : Same H H') : Hold0 H' x d := by
  cases d with
  | fl v => exact h
  | di => obtain ⟨a, e, h⟩ := h; exact ⟨a, e, s _ _ h⟩
  | tu xs => obtain ⟨a, e, h, f⟩ := h; exact ⟨a, e, s _ _ h, f⟩
  | ls xs => obtain ⟨a, e, h, f⟩ := h; exact ⟨a, e, s _ _ h, f⟩
theorem Hold1.same {H H' : Hp} {x : V} {d : D1} (h : Hold1 H x d) (s : Same H H') : Hold1 H' x d := by
  cases d with
  | ob d => exact Hold0.same (d := d) h s
  | ll ds => obtain ⟨a, ys, e, h, p⟩ := h; exact ⟨a, ys, e, s _ _ h, L2.Paired.mapP p fun _ _ z => z.same s⟩
theorem same_flats {K : W.Frag} {H : Hp} {n : Nat} {xs : List V} (f : ∀ z ∈ xs, flatV z = true) (i : Nat) (x y : V) (e1 : xs[i]? = some x) (e2 : xs[i]? = some y) : SameE K H n x y := by
  rw [e1] at e2
  cases e2
  exact .flat (f _ (List.mem_of_getElem? e1))
theorem hold_same0 {K : W.Frag} {H : Hp} {x y : V} {d : D0} (h1 : Hold0 H x d) (h2 : Hold0 H y d) : SameE K H 1 x y := by
  cases d with
  | fl v => obtain ⟨rfl, f⟩ := h1; obtain ⟨rfl, _⟩ := h2; exact .flat f
  | di => obtain ⟨a, rfl, h1⟩ := h1; obtain ⟨b, rfl, h2⟩ := h2; exact .dic h1 h2
  | tu xs => obtain ⟨a, rfl, h1, f⟩ := h1; obtain ⟨b, rfl, h2, _⟩ := h2; exact .tup (SqT.of h1) (SqT.of h2) rfl (same_flats f)
  | ls xs => obtain ⟨a, rfl, h1, f⟩ := h1; obtain ⟨b, rfl, h2, _⟩ := h2; exact .lst (SqL.of h1) (SqL.of h2) rfl (same_flats f)
theorem hold_same1 {K : W.Frag} {H : Hp} {x y : V} {d : D1} (h1 : Hold1 H x d) (h2 : Hold1 H y d) : ∃ n, n <= 64 /\ SameE K H n x y := by
  cases d with
  | ob d => exact ⟨1, by decide, hold_same0 h1 h2⟩
  | ll ds =>
    obtain ⟨a, xs, rfl, h1, p1⟩ := h1
    obtain ⟨b, ys, rfl, h2, p2⟩ := h2
    refine ⟨2, by decide, .lst (SqL.of h1) (SqL.of h2) (by rw [Paired.length p1, Paired.length p2]) fun i x y e1 e2 => ?_⟩
    obtain ⟨d, f1, g1⟩ := Paired.at p1 e1
    obtain ⟨d', f2, g2⟩ := Paired.at p2 e2
    rw [f1] at f2
    cases f2
    exact hold_same0 g1 g2
theorem hold_plain {K : W.Frag} {H : Hp} {x : V} {d : D0} (h : Hold0 H x d) : Plain K H x := by
  cases d with
  | fl v =>
    obtain ⟨rfl, f⟩ := h
    cases x with
    | non => exact ⟨_, .non, (fun _ z => nomatch z)⟩
    | bl b => exact ⟨_, .bl _, (fun _ z => nomatch z)⟩
    | int i => exact plain_int _ _ _
    | str z => exact ⟨_, .str _, (fun _ z => nomatch z)⟩
    | _ => exact absurd (show false = true from f) (by decide)
  | di => obtain ⟨a, rfl, h⟩ := h; exact ⟨_, .dK h, (fun _ z => nomatch z)⟩
  | tu xs => obtain ⟨a, rfl, h, _⟩ := h; exact ⟨_, .tup h, (fun _ z => nomatch z)⟩
  | ls xs => obtain ⟨a, rfl, h, _⟩ := h; exact ⟨_, .lst h, (fun _ z => nomatch z)⟩
def fi (i : Int) : D0 := .fl (.int i)
theorem hold_fi (H : Hp) (i : Int) : Hold0 H (.int i) (fi i) := ⟨rfl, rfl⟩
theorem pair_fi (H : Hp) : ∀ ns : List Int, Paired (Hold0 H) (ns.map V.int) (ns.map fi)
  | [] => .nil
  | i :: ns => .cons (hold_fi H i) (pair_fi H ns)
def IsBad (m : Nat) : D1 -> Prop
  | .ob (.fl v) => v = .int 0 \/ v = .str "0"
  | .ob .di => True
  | .ob (.tu xs) => ∃ ns : List Int, xs = ns.map V.int /\ ¬ ns.Perm (ups m) /\ ns.length <= 20
  | .ob (.ls _) => False
  | .ll ds => ds.length <= 20 /\ ((∃ d ∈ ds, ∀ i, d ≠ fi i) \/ ∃ ns : List Int, ds = ns.map fi /\ ¬ ns.Perm (ups m))
theorem pair_ints {H : Hp} : ∀ {ns : List Int} {ys : List V}, Paired (Hold0 H) ys (ns.map fi) -> ys = ns.map V.int
  | [], _, .nil => rfl
  | i :: ns, _, .cons h t => by rw [pair_ints t, show _ = V.int i from h.1]; rfl
theorem bad_of {K : W.Frag} {H : Hp} {m : Nat} {x : V} {d : D1} (h : Hold1 H x d) (b : IsBad m d) : BadOrd K H m x := by
  cases d with
  | ob d =>
    cases d with
    | fl v =>
      obtain ⟨rfl, _⟩ := h
      rcases b with rfl | rfl
      · exact .no (.int _) (fun _ z => nomatch z) (by decide +kernel) (by decide +kernel) (fun z => nomatch z)
      · exact .no (.str _) (fun _ z => nomatch z) (by decide +kernel) (by decide +kernel) (fun z => nomatch z)
    | di => obtain ⟨a, rfl, h⟩ := h; exact .no (.dK h) (fun _ z => nomatch z) (by decide +kernel) (by decide +kernel) (fun z => nomatch z)
    | tu xs =>
      obtain ⟨a, rfl, h, _⟩ := h
      obtain ⟨ns, rfl, np, nl⟩ := b
      exact .nums (kd := .t) h np nl
    | ls xs => exact b.elim
  | ll ds =>
    obtain ⟨a, ys, rfl, h, p⟩ := h
    obtain ⟨l20, b⟩ := b
    rcases b with ⟨d, hd, nd⟩ | ⟨ns, rfl, np⟩
    · refine .mix (kd := .l) h (fun y hy => ?_) ?_ (by rw [Paired.length p]; exact l20)
      · obtain ⟨i, il, rfl⟩ := List.getElem_of_mem hy
        obtain ⟨e, _, g⟩ := Paired.at p (List.getElem?_eq_getElem il)
        exact hold_plain g
      · obtain ⟨i, il, e⟩ := List.getElem_of_mem hd
        have il' : i < ys.length := by rw [Paired.length p]; exact il
        obtain ⟨e', f, g⟩ := Paired.at p (List.getElem?_eq_getElem il')
        rw [List.getElem?_eq_getElem il, e] at f
        cases f
        refine ⟨ys[i], List.getElem_mem il', ?_⟩
        generalize ys[i] = y at g
        cases d with
        | fl v =>
          obtain ⟨rfl, _⟩ := g
          cases y with
          | int i => exact absurd rfl (nd i)
          | _ => rfl
        | di => obtain ⟨_, rfl, _⟩ := g; rfl
        | tu _ => obtain ⟨_, rfl, _⟩ := g; rfl
        | ls _ => obtain ⟨_, rfl, _⟩ := g; rfl
    · rw [pair_ints p] at h
      exact .nums (kd := .l) h np (by rw [List.length_map] at l20; exact l20)
theorem pos58 : (0 : Int) < 10 ^ (58 : Int).toNat := by decide +kernel
theorem cut_take (xs : List V) {a : Nat} (h : a <= xs.length) : cutV xs none (some (a : Int)) = xs.take a := by
  unfold cutV
  rw [HT.sIx_nat, HT.sIx_none, List.drop_zero, Nat.sub_zero, Nat.min_eq_left h]
theorem cut_drop (xs : List V) {a : Nat} (h : a <= xs.length) : cutV xs (some (a : Int)) none = xs.drop a := by
  unfold cutV
  rw [HT.sIx_nat, HT.sIx_none, Nat.min_eq_left h, List.take_of_length_le (by rw [List.length_drop]; exact Nat.le_refl _)]
def oddT (m : Int) (far k : Int) (way : Int) : D0 :=
  if way = 3 then fi (m + far) else if way = 4 then fi (-1 - far) else if way = 6 then
    (if far % 3 = 0 then .fl (.str (toString k)) else if far % 3 = 1 then .fl .non else .di)
  else (if far % 2 = 0 then .tu [.int k] else .ls [.int 0])
def badT (ord : List Int) (cell : Int) : D1 :=
  let m := ord.length
  let way := cell % 12
  let a := (cell / 12 % (max m 1 : Nat)).toNat
  if way = 0 \/ (m = 0 /\ way < 8) then .ll ((ord ++ [(m : Int)]).map fi)
  else if way = 1 then .ll ((ord.take a ++ ord.drop (a + 1)).map fi)
  else if way = 2 then .ll ((ord.take a ++ [at0 ord a] ++ ord.drop a).map fi)
  else if way = 5 then .ll (ord.map fun k => if k < 2 then .fl (.bl (decide (k = 1))) else fi k)
  else if way = 8 then .ob (.tu ((ord ++ [(m : Int)]).map V.int))
  else if way = 9 then .ob (.fl (.int 0))
  else if way = 10 then .ob (.fl (.str "0"))
  else if way = 11 then .ob .di
  else .ll ((ord.take a).map fi ++ [oddT m (cell / 96 % 10 ^ 58) (at0 ord a) way] ++ (ord.drop (a + 1)).map fi)
theorem no_len58 {ns : List Int} {m : Nat} (h : ns.length ≠ m) : ¬ ns.Perm (ups m) := fun z => h (by rw [z.length_eq, ups_len]; lia)
theorem bad_is {ord : List Int} {cell : Int} (pm : ord.Perm (ups ord.length)) (l8 : ord.length <= 8) : IsBad ord.length (badT ord cell) := by
  have w0 := mod_in cell 12 (by decide)
  unfold badT
  dsimp only
  generalize cell % 12 = way at w0
  have am : ∀ x ∈ ord, 0 <= x /\ x < (ord.length : Int) := fun x hx => mem_ups.mp (pm.mem_iff.mp hx)
  split
  · exact ⟨by rw [List.length_map, List.length_append]; show ord.length + 1 <= 20; lia, .inr ⟨_, rfl, no_len58 (by rw [List.length_append]; show ord.length + 1 ≠ _; lia)⟩⟩
  rename_i h0
  have mp : way < 8 -> 1 <= ord.length := fun h => by
    rcases Nat.eq_zero_or_pos ord.length with z | z
    · exact absurd (.inr ⟨z, h⟩) h0
    · exact z
  have am2 : way < 8 -> (cell / 12 % ((max ord.length 1 : Nat) : Int)).toNat < ord.length := fun h => by
    have m1 := mp h
    have := mod_in (cell / 12) ((max ord.length 1 : Nat) : Int) (by lia)
    lia
  generalize (cell / 12 % ((max ord.length 1 : Nat) : Int)).toNat = a at am2
  split
  · have := am2 (by lia)
    exact ⟨by rw [List.length_map, List.length_append, List.length_take, List.length_drop]; lia, .inr ⟨_, rfl, no_len58 (by rw [List.length_append, List.length_take, List.length_drop]; lia)⟩⟩
  split
  · have := am2 (by lia)
    exact ⟨by rw [List.length_map, List.length_append, List.length_append, List.length_take, List.length_drop]; show min a ord.length + 1 + (ord.length - a) <= 20; lia, .inr ⟨_, rfl, no_len58 (by rw [List.length_append, List.length_append, List.length_take, List.length_drop]; show min a ord.length + 1 + (ord.length - a) ≠ _; lia)⟩⟩
  split
  · refine ⟨by rw [List.length_map]; lia, .inl ?_⟩
    have z : (0 : Int) ∈ ord := pm.mem_iff.mpr (mem_ups.mpr ⟨by decide, by have := mp (by lia); lia⟩)
    exact ⟨_, List.mem_map_of_mem z, fun i e => by rw [if_pos (by decide)] at e; unfold fi at e; cases e⟩
  split
  · exact ⟨_, rfl, no_len58 (by rw [List.length_append]; show ord.length + 1 ≠ _; lia), by rw [List.length_append]; show ord.length + 1 <= 20; lia⟩
  split
  · exact .inl rfl
  split
  · exact .inr rfl
  split
  · trivial
  have wl : way < 8 := by lia
  have al := am2 wl
  refine ⟨by rw [List.length_append, List.length_append, List.length_map, List.length_map, List.length_take, List.length_drop]; show min a ord.length + 1 + (ord.length - (a + 1)) <= 20; lia, ?_⟩
  have ff : 0 <= cell / 96 % 10 ^ 58 := (mod_in (cell / 96) (10 ^ 58) (by decide)).1
  generalize cell / 96 % 10 ^ 58 = far at ff
  have many : ∀ x : Int, (x < 0 \/ (ord.length : Int) <= x) -> ∃ ns : List Int, (ord.take a).map fi ++ [fi x] ++ (ord.drop (a + 1)).map fi = ns.map fi /\ ¬ ns.Perm (ups ord.length) := fun x hx => by
    refine ⟨ord.take a ++ [x] ++ ord.drop (a + 1), by rw [List.map_append, List.map_append]; rfl, fun z => ?_⟩
    have := mem_ups.mp (z.mem_iff.mp (List.mem_append_left _ (List.mem_append_right _ (List.mem_singleton.mpr rfl))))
    lia
  have odd : ∀ d : D0, (∀ i, d ≠ fi i) -> ∃ e ∈ (ord.take a).map fi ++ [d] ++ (ord.drop (a + 1)).map fi, ∀ i, e ≠ fi i := fun d hd => ⟨d, List.mem_append_left _ (List.mem_append_right _ (List.mem_singleton.mpr rfl)), hd⟩
  unfold oddT
  split
  · exact .inr (many _ (.inr (by lia)))
  split
  · exact .inr (many _ (.inl (by lia)))
  refine .inl (odd _ fun i e => ?_)
  unfold fi at e
  split at e
  · split at e
    · cases e
    · split at e <;> cases e
  · split at e <;> cases e
def spBad (K : W.Frag) : Sp := fun vs H Q _ => ∃ (o : Addr) (ord : List Int) (cell : Int), vs = [.ref o, .int cell] /\ H o = some (.lst (ord.map V.int)) /\ ord.length <= 8 /\ ord.Perm (ups ord.length) /\ ∀ x H', Same H H' -> Hold1 H' x (badT ord cell) -> Q x H'
theorem ndk1 : (["_law_k"] : List Str).Nodup := by decide +kernel
theorem flat_ints (ns : List Int) : ∀ z ∈ ns.map V.int, flatV z = true := fun z hz => by
  obtain ⟨i, _, rfl⟩ := List.mem_map.mp hz
  rfl
theorem at_ord {ord : List Int} {a : Nat} (h : a < ord.length) : atI (ord.map V.int) (a : Int) = some (.int (at0 ord a)) := by
  refine atI_nat ?_
  rw [List.getElem?_map, List.getElem?_eq_getElem h]
  unfold at0
  rw [Int.toNat_natCast, List.getD_eq_getElem?_getD, List.getElem?_eq_getElem h]
  rfl
theorem hold_ll {H : Hp} {p : Addr} {ns : List Int} (h : H p = some (.lst (ns.map V.int))) : Hold1 H (.ref p) (.ll (ns.map fi)) := ⟨p, _, rfl, h, pair_fi H ns⟩
theorem vT {i j : Int} (h : i = j) : decide (V.int i = V.int j) = true := decide_eq_true (by rw [h])
theorem vF {i j : Int} (h : i ≠ j) : decide (V.int i = V.int j) = false := decide_eq_false fun z => h (by injection z)
theorem log_small {k : Int} (h : k.natAbs < 64) : k.natAbs.log2 < 1920 := by
  by_cases z : k.natAbs = 0
  · rw [z]; decide
  · exact Nat.lt_trans ((Nat.log2_lt z).mpr (show k.natAbs < 2 ^ 6 from h)) (by decide)
def boT (k : Int) : V := if k < 2 then .bl (decide (k = 1)) else .int k
theorem pair_bo (H : Hp) : ∀ ns : List Int, Paired (Hold0 H) (ns.map boT) (ns.map fun k => if k < 2 then .fl (.bl (decide (k = 1))) else fi k)
  | [] => .nil
  | i :: ns => .cons (by
      show Hold0 H (boT i) (if i < 2 then .fl (.bl (decide (i = 1))) else fi i)
      unfold boT
      by_cases c : i < 2
      · rw [if_pos c, if_pos c]; exact ⟨rfl, rfl⟩
      · rw [if_neg c, if_neg c]; exact ⟨rfl, rfl⟩) (pair_bo H ns)
theorem hold_upd {H : Hp} {x : V} {d : D0} {p : Addr} {o : HO} (h : Hold0 H x d) (n : x ≠ .ref p) : Hold0 (upd H p o) x d := by
  cases d with
  | fl v => exact h
  | di => obtain ⟨a, rfl, h⟩ := h; exact ⟨a, rfl, by rw [upd_ne fun z => n (by rw [z])]; exact h⟩
  | tu xs => obtain ⟨a, rfl, h, f⟩ := h; exact ⟨a, rfl, by rw [upd_ne fun z => n (by rw [z])]; exact h, f⟩
  | ls xs => obtain ⟨a, rfl, h, f⟩ := h; exact ⟨a, rfl, by rw [upd_ne fun z => n (by rw [z])]; exact h, f⟩
theorem ne_ref {H : Hp} {p d : Addr} {o : HO} (h : H p = some o) (hd : H d = none) : (V.ref d) ≠ .ref p := fun z => by
  injection z with z
  rw [z, h] at hd
  cases hd
section
variable {P : Program} {w : World} {K : W.Frag} {mg : Str -> Option Value} {base : Heap}
seal PSs PS PE PI PA PT PG
theorem scBad : FnScope ["_law_order_here", "_law_cell", "_law_many", "_law_way", "_law_at_here", "_law_far", "_law_thing"] ["_law_order_here", "_law_cell"] (defScope sBad) := ⟨rfl, rfl, rfl, by decide +kernel, rfl, by decide +kernel, by decide +kernel⟩
theorem d_bad (T : Txt K mg) (ts : mg "str" = none) (bs : bootBuiltins "str" = some (.type "str")) (S : Src K mg "_law_bad" sBad ["_law_order_here", "_law_cell"]) : Def P w K mg base 1 "_law_bad" ["_law_order_here", "_law_cell"] (spBad K) := by
  refine S.def scBad (fun vs H Q E h => ?_) (fun f cdv A outer s H vs Q E hr h => ?_)
  · obtain ⟨_, _, _, rfl, _⟩ := h; rfl
  · obtain ⟨o, ord, cell, rfl, ho, l8, pm, q⟩ := h
    refine ⟨_, pss_cons (ps_set (i := 2) scBad.nd rfl (Or.inl rfl) (pe_callB (call_lenK K) (by rfl) T.len PySem.boot_len (pa_cons (pv 0) pa_nil)))
      (pss_cons (ps_set (i := 3) scBad.nd rfl (Or.inl rfl) (pe_op op_mod (pv 1) pe_int))
      (pss_cons (ps_if (PW.pt (pw_or (pt_cmpR op_eq (pv 3) pe_int (nomark _)) (pw_or1 (PW.pt (pw_and (pt_cmpR op_eq (pv 2) pe_int (nomark _)) (pw_and1 (pt_cmpR op_lt (pv 3) pe_int (nomark _)))))))) (pss_one (ps_ret (pe_op op_cat (pv 0) (pe_lst (pa_cons (pv 2) pa_nil))))) pss_nil)
      (pss_cons (ps_set (i := 4) scBad.nd rfl (Or.inl rfl) (pe_op op_mod (pe_op op_fdiv (pv 1) pe_int) (pe_callB (call_max2 rfl) (by rfl) T.max boot_max' (pa_cons (pv 2) (pa_cons pe_int pa_nil)))))
      (pss_cons (ps_if (pt_cmpR op_eq (pv 3) pe_int (nomark _)) (pss_one (ps_ret (pe_op op_cat (pe_slice (sl_listK K) (pv 0) po_none (po_some (pv 4))) (pe_slice (sl_listK K) (pv 0) (po_some (pe_op op_add (pv 4) pe_int)) po_none)))) pss_nil)
      (pss_cons (ps_if (pt_cmpR op_eq (pv 3) pe_int (nomark _)) (pss_one (ps_ret (pe_op op_cat (pe_op op_cat (pe_slice (sl_listK K) (pv 0) po_none (po_some (pv 4))) (pe_lst (pa_cons (pe_ix (ix_listK K) (pv 0) (pv 4) (fun _ _ => rfl)) pa_nil))) (pe_slice (sl_listK K) (pv 0) (po_some (pv 4)) po_none)))) pss_nil)
      (pss_cons (ps_if (pt_cmpR op_eq (pv 3) pe_int (nomark _)) (pss_one (ps_ret (pe_comp (N' := ["_law_k"]) (fr := [none]) (compOk_of (by rfl)) rfl (pi_seqK K .l (pv 0)) (fun _ _ _ _ => pg_name (i := 0) ndk1 rfl (Or.inl rfl) (Or.inr rfl)) (fun _ _ _ _ => pifs_nil) (fun _ _ _ _ => pe_ix (r := rIxL K) (ix_listK K) (pe_lst (pa_cons (pv 0) (pa_cons (pe_cmpR op_eq (pv 0) pe_int (nomark _)) pa_nil))) (pe_callTy call_intB rfl T.int boot_int' (pa_cons (pe_cmpR op_lt (pv 0) pe_int (nomark _)) pa_nil)) (fun _ _ => rfl))))) pss_nil)
      (pss_cons (ps_if (pt_cmpR op_gt (pv 3) pe_int (nomark _)) (pss_one (ps_ret (pe_ix (ix_listK K) (pe_lst (pa_cons (pe_op (op_catAK K) (pe_callTy (call_tuple_ofK K) rfl T.tuple boot_tuple' (pa_cons (pv 0) pa_nil)) (pe_tup (pa_cons (pv 2) pa_nil))) (pa_cons pe_int (pa_cons pe_str (pa_cons pe_dict0 pa_nil))))) (pe_op op_sub (pv 3) pe_int) (fun _ _ => rfl)))) pss_nil)
      (pss_cons (ps_set (i := 5) scBad.nd rfl (Or.inl rfl) (pe_op op_mod (pe_op op_fdiv (pv 1) pe_int) (pe_op op_pow pe_int pe_int)))
      (pss_cons (ps_set (i := 6) scBad.nd rfl (Or.inl rfl) (pe_dget (hu_of hr) (pe_disp (pps_cons pe_int (pe_op op_add (pv 2) (pv 5)) (pps_cons pe_int (pe_op op_sub (pe_un un_neg pe_int) (pv 5)) (pps_cons pe_int (pe_ix (ix_listK K) (pe_lst (pa_cons (pe_callTy call_str_int rfl ts bs (pa_cons (pe_ix (ix_listK K) (pv 0) (pv 4) (fun _ _ => rfl)) pa_nil)) (pa_cons pe_non (pa_cons pe_dict0 pa_nil)))) (pe_op op_mod (pv 5) pe_int) (fun _ _ => rfl)) (pps_cons pe_int (pe_ix (ix_listK K) (pe_lst (pa_cons (pe_tup (pa_cons (pe_ix (ix_listK K) (pv 0) (pv 4) (fun _ _ => rfl)) pa_nil)) (pa_cons (pe_lst (pa_cons pe_int pa_nil)) pa_nil))) (pe_op op_mod (pv 5) pe_int) (fun _ _ => rfl)) pps_nil)))) rfl rfl (by simp) (by decide)) (pv 3) (fun _ _ => rfl)))
      (pss_one (ps_ret (pe_op op_cat (pe_op op_cat (pe_slice (sl_listK K) (pv 0) po_none (po_some (pv 4))) (pe_lst (pa_cons (pv 6) pa_nil))) (pe_slice (sl_listK K) (pv 0) (po_some (pe_op op_add (pv 4) pe_int)) po_none))))))))))))), ?_⟩
    have ho1 : SqL K H o (ord.map V.int) := SqL.of ho
    have sz : ∀ k : Nat, k <= 40 -> k <= sizeLine := fun k hk => Nat.le_trans hk (by decide)
    refine seq_abs fun M hM => ?_
    refine ⟨_, rfl, o, _, rfl, .inl ho1, ?_⟩
    show gName 2 (V.int ((ord.map V.int).length : Int)) _ _ _
    rw [List.length_map]
    show M [some (.ref o), some (.int cell), some (.int (ord.length : Int)), none, none, none, none] H
    refine hM _ _ ?_
    clear hM M
    refine seq_abs fun M hM => ?_
    refine ⟨_, rfl, _, _, rfl, rfl, (by show (0 : Int) < 12; decide), ?_⟩
    show M [some (.ref o), some (.int cell), some (.int (ord.length : Int)), some (.int (cell % 12)), none, none, none] H
    refine hM _ _ ?_
    clear hM M
    have w0 := mod_in cell 12 (by decide)
    unfold badT at q
    dsimp only at q
    generalize cell % 12 = way at w0 q ⊢
    refine seq_abs fun M hM => ?_
    by_cases c0 : way = 0 \/ (ord.length = 0 /\ way < 8)
    · rw [if_pos c0] at q
      clear hM
      have fin : ∀ D : Ends, D.rt = Q -> (tRet (tOp rCat (tVar 0) (tLst (tCons (tVar 2) tNil)))) D [some (.ref o), some (.int cell), some (.int (ord.length : Int)), some (.int way), none, none, none] H := fun D hD => by
        refine ⟨_, rfl, _, rfl, by show 1 <= sizeLine; decide, fun l hl => ?_⟩
        have s1 := Same.new (o := HO.lst [.int (ord.length : Int)]) hl
        refine ⟨o, l, _, _, rfl, rfl, s1 _ _ ho, upd_same, by rw [List.length_map]; exact sz _ (show ord.length + 1 <= 40 by lia), fun p hp => ?_⟩
        rw [hD]
        refine q _ _ (s1.trans (Same.new hp)) (hold_ll ?_)
        rw [upd_same, List.map_append]
        rfl
      by_cases cw : way = 0
      · refine ⟨_, rfl, rfl, _, rfl, ?_⟩
        rw [vT cw]
        exact iteT (fin _ rfl)
      · obtain ⟨m0, w8⟩ := c0.resolve_left cw
        refine ⟨_, rfl, rfl, _, rfl, ?_⟩
        rw [vF cw]
        refine iteF ⟨_, rfl, rfl, _, rfl, ?_⟩
        rw [vT (show (ord.length : Int) = 0 by lia)]
        refine iteT ⟨_, rfl, _, _, rfl, rfl, _, rfl, ?_⟩
        rw [decide_eq_true w8]
        exact iteT (fin _ rfl)
    rw [if_neg c0] at q
    have cw : way ≠ 0 := fun z => c0 (.inl z)
    have go : M [some (.ref o), some (.int cell), some (.int (ord.length : Int)), some (.int way), none, none, none] H := hM _ _ (by
      clear hM
      have mp : way < 8 -> 1 <= ord.length := fun h => by
        rcases Nat.eq_zero_or_pos ord.length with z | z
        · exact absurd (.inr ⟨z, h⟩) c0
        · exact z
      refine seq_abs fun M hM => ?_
      have mx : (if (1 : Int) > (ord.length : Int) then (1 : Int) else (ord.length : Int)) = ((max ord.length 1 : Nat) : Int) := by
        split <;> lia
      refine ⟨_, rfl, _, _, rfl, rfl, ⟨by decide, by decide⟩, _, rfl, _, _, rfl, _, _, rfl, rfl, ?_, ?_⟩
      · show (0 : Int) < (if (1 : Int) > (ord.length : Int) then (1 : Int) else (ord.length : Int))
        rw [mx]
        lia
      show gName 4 (V.int (cell / 12 % (if (1 : Int) > (ord.length : Int) then (1 : Int) else (ord.length : Int)))) _ _ _
      rw [mx]
      have ab := mod_in (cell / 12) ((max ord.length 1 : Nat) : Int) (by lia)
      obtain ⟨a, ea⟩ := Int.eq_ofNat_of_zero_le ab.1
      have al : way < 8 -> a < ord.length := fun h => by
        have := mp h
        lia
      have ea2 : (cell / 12 % ((max ord.length 1 : Nat) : Int)).toNat = a := by lia
      rw [ea2] at q
      rw [ea]
      refine hM _ _ ?_
      clear hM M
      clear ea2 ea ab mx
      try dsimp only [List.set]
      have eT : way < 8 -> cutV (ord.map V.int) none (some (a : Int)) = (ord.take a).map V.int := fun h => by
        rw [cut_take _ (by rw [List.length_map]; exact Nat.le_of_lt (al h)), List.map_take]
      have eD : way < 8 -> cutV (ord.map V.int) (some (a : Int)) none = (ord.drop a).map V.int := fun h => by
        rw [cut_drop _ (by rw [List.length_map]; exact Nat.le_of_lt (al h)), List.map_drop]
      have eD1 : way < 8 -> cutV (ord.map V.int) (some ((a : Int) + 1)) none = (ord.drop (a + 1)).map V.int := fun h => by
        rw [show (a : Int) + 1 = ((a + 1 : Nat) : Int) from rfl, cut_drop _ (by rw [List.length_map]; exact al h), List.map_drop]
      refine seq_abs fun M hM => ?_
      refine ⟨_, rfl, rfl, _, rfl, ?_⟩
      by_cases c1 : way = 1
      · rw [vT c1]
        rw [if_pos c1] at q
        have h8 : way < 8 := by lia
        refine iteT ⟨_, rfl, _, rfl, _, rfl, o, _, rfl, ho1, fun p1 hp1 => ?_⟩
        rw [eT h8]
        have s1 := Same.new (o := HO.lst ((ord.take a).map V.int)) hp1
        have h1 : (upd H p1 (.lst ((ord.take a).map V.int))) p1 = some (.lst ((ord.take a).map V.int)) := upd_same
        generalize upd H p1 (.lst ((ord.take a).map V.int)) = H1 at s1 h1 ⊢
        refine ⟨_, rfl, _, rfl, _, _, rfl, rfl, _, rfl, o, _, rfl, SqL.of (s1 _ _ ho), fun p2 hp2 => ?_⟩
        rw [eD1 h8]
        have s2 := Same.new (o := HO.lst ((ord.drop (a + 1)).map V.int)) hp2
        refine ⟨p1, p2, _, _, rfl, rfl, s2 _ _ h1, upd_same, ?_, fun p3 hp3 => ?_⟩
        · rw [List.length_map, List.length_map, List.length_take, List.length_drop]
          exact sz _ (by lia)
        refine q _ _ (s1.trans (s2.trans (Same.new hp3))) (hold_ll ?_)
        rw [upd_same, List.map_append]
      rw [vF c1]
      rw [if_neg c1] at q
      refine iteF (hM _ _ ?_)
      clear hM M
      refine seq_abs fun M hM => ?_
      refine ⟨_, rfl, rfl, _, rfl, ?_⟩
      by_cases c2 : way = 2
      · rw [vT c2]
        rw [if_pos c2] at q
        have h8 : way < 8 := by lia
        refine iteT ⟨_, rfl, _, rfl, _, rfl, o, _, rfl, ho1, fun p1 hp1 => ?_⟩
        rw [eT h8]
        have s1 := Same.new (o := HO.lst ((ord.take a).map V.int)) hp1
        have h1 : (upd H p1 (.lst ((ord.take a).map V.int))) p1 = some (.lst ((ord.take a).map V.int)) := upd_same
        generalize upd H p1 (.lst ((ord.take a).map V.int)) = H1 at s1 h1 ⊢
        refine ⟨_, rfl, _, rfl, o, _, _, _, rfl, rfl, SqL.of (s1 _ _ ho), at_ord (al h8), by show 1 <= sizeLine; decide, fun p2 hp2 => ?_⟩
        have s2 := Same.new (o := HO.lst [.int (at0 ord a)]) hp2
        have h2 : (upd H1 p2 (.lst [.int (at0 ord a)])) p2 = some (.lst [.int (at0 ord a)]) := upd_same
        replace h1 := s2 _ _ h1
        replace s2 := s1.trans s2
        generalize upd H1 p2 (.lst [.int (at0 ord a)]) = H2 at s2 h1 h2 ⊢
        refine ⟨p1, p2, _, _, rfl, rfl, h1, h2, ?_, fun p3 hp3 => ?_⟩
        · rw [List.length_map, List.length_take]
          exact sz _ (show min a ord.length + 1 <= 40 by lia)
        have s3 := Same.new (o := HO.lst ((ord.take a).map V.int ++ [.int (at0 ord a)])) hp3
        have h3 : (upd H2 p3 (.lst ((ord.take a).map V.int ++ [.int (at0 ord a)]))) p3 = some (.lst ((ord.take a ++ [at0 ord a]).map V.int)) := by rw [upd_same, List.map_append]; rfl
        replace s3 := s2.trans s3
        generalize upd H2 p3 (.lst ((ord.take a).map V.int ++ [.int (at0 ord a)])) = H3 at s3 h3 ⊢
        refine ⟨_, rfl, _, rfl, _, rfl, o, _, rfl, SqL.of (s3 _ _ ho), fun p4 hp4 => ?_⟩
        rw [eD h8]
        have s4 := Same.new (o := HO.lst ((ord.drop a).map V.int)) hp4
        refine ⟨p3, p4, _, _, rfl, rfl, s4 _ _ h3, upd_same, ?_, fun p5 hp5 => ?_⟩
        · rw [List.length_map, List.length_map, List.length_append, List.length_take, List.length_drop]
          exact sz _ (show min a ord.length + 1 + (ord.length - a) <= 40 by lia)
        refine q _ _ (s3.trans (s4.trans (Same.new hp5))) (hold_ll ?_)
        rw [upd_same]
        simp only [List.map_append]
      rw [vF c2]
      rw [if_neg c2] at q
      refine iteF (hM _ _ ?_)
      clear hM M
      refine seq_abs fun M hM => ?_
      refine ⟨_, rfl, rfl, _, rfl, ?_⟩
      by_cases c5 : way = 5
      · rw [vT c5]
        rw [if_pos c5] at q
        refine iteT ⟨_, rfl, o, rfl, ⟨_, ho1⟩, comp_seq (k := .l) (a := o) (xs := ord.map V.int) (fun σ => ∃ v, σ = [v]) (fun i ys H' => Same H H' /\ ys = (ord.take i).map boT) ⟨_, rfl⟩ ⟨Same.refl H, rfl⟩ (Nat.lt_of_le_of_lt (show (ord.map V.int).length <= 20 by rw [List.length_map]; lia) (by decide)) (fun i ys H' _ z => SqL.of (z.1 _ _ ho)) ?_ ?_⟩
        · rintro i x ys σ H' N hx ⟨u, rfl⟩ ⟨s1, rfl⟩ hN
          obtain ⟨k, ek, rfl⟩ := get_int' hx
          dsimp only [gName, List.set]
          refine yesT ⟨_, rfl, _, rfl, rfl, by show 2 <= sizeLine; decide, fun l hl => ?_⟩
          have s2 := Same.new (o := HO.lst [.int k, .bl (decide (V.int k = V.int 1))]) hl
          have h2 : (upd H' l (.lst [.int k, .bl (decide (V.int k = V.int 1))])) l = some (.lst [.int k, .bl (decide (V.int k = V.int 1))]) := upd_same
          generalize upd H' l (.lst [.int k, .bl (decide (V.int k = V.int 1))]) = H2 at s2 h2 ⊢
          refine ⟨_, rfl, _, _, rfl, rfl, decide (k < 2), rfl, l, _, _, boT k, rfl, rfl, SqL.of h2, ?_, ?_⟩
          · unfold boT
            by_cases ck : k < 2
            · rw [decide_eq_true ck, if_pos ck, if_pos rfl]
              have e : decide (V.int k = V.int 1) = decide (k = 1) := by
                by_cases z : k = 1
                · rw [vT z, decide_eq_true z]
                · rw [vF z, decide_eq_false z]
              rw [e]
              exact atI_nat (j := 1) rfl
            · rw [decide_eq_false ck, if_neg ck, if_neg (by decide)]
              exact atI_nat (j := 0) rfl
          · refine hN _ _ _ ⟨_, rfl⟩ ⟨s1.trans s2, ?_⟩ (by simp)
            rw [take_succ_of ek, List.map_append]
            rfl
        · rintro ys H' ⟨s1, rfl⟩ p hp
          rw [List.length_map, List.take_length]
          exact q _ _ (s1.trans (Same.new hp)) ⟨p, _, rfl, upd_same, pair_bo _ _⟩
      rw [vF c5]
      rw [if_neg c5] at q
      refine iteF (hM _ _ ?_)
      clear hM M
      refine seq_abs fun M hM => ?_
      refine ⟨_, rfl, _, _, rfl, rfl, _, rfl, ?_⟩
      by_cases c7 : way > 7
      · rw [decide_eq_true (show (7 : Int) < way from c7)]
        refine iteT ⟨_, rfl, o, _, rfl, .inl ⟨ho1, fun t1 ht1 => ?_⟩⟩
        have s1 := Same.new (o := HO.tup (ord.map V.int)) ht1
        have h1 : (upd H t1 (.tup (ord.map V.int))) t1 = some (.tup (ord.map V.int)) := upd_same
        generalize upd H t1 (.tup (ord.map V.int)) = H1 at s1 h1 ⊢
        refine ⟨_, rfl, by show 1 <= sizeLine; decide, fun t2 ht2 => ?_⟩
        have s2 := Same.new (o := HO.tup [.int (ord.length : Int)]) ht2
        have h2 : (upd H1 t2 (.tup [.int (ord.length : Int)])) t2 = some (.tup [.int (ord.length : Int)]) := upd_same
        replace h1 := s2 _ _ h1
        replace s2 := s1.trans s2
        generalize upd H1 t2 (.tup [.int (ord.length : Int)]) = H2 at s2 h1 h2 ⊢
        refine ⟨t1, t2, _, _, rfl, rfl, h1, h2, by rw [List.length_map]; exact sz _ (show ord.length + 1 <= 40 by lia), fun t3 H3 s3 h3 => ?_⟩
        replace s3 := s2.trans s3
        refine fun d hd => ?_
        have s4 := Same.new (o := HO.dK []) hd
        have h4 : (upd H3 d (.dK [])) d = some (.dK []) := upd_same
        replace h3 := s4 _ _ h3
        replace s4 := s3.trans s4
        generalize upd H3 d (.dK []) = H4 at s4 h3 h4 ⊢
        refine ⟨by show 4 <= sizeLine; decide, fun l hl => ?_⟩
        have s5 := Same.new (o := HO.lst [.ref t3, .int 0, .str "0", .ref d]) hl
        have h5 : (upd H4 l (.lst [.ref t3, .int 0, .str "0", .ref d])) l = some (.lst [.ref t3, .int 0, .str "0", .ref d]) := upd_same
        replace h3 := s5 _ _ h3
        replace h4 := s5 _ _ h4
        replace s5 := s4.trans s5
        generalize upd H4 l (.lst [.ref t3, .int 0, .str "0", .ref d]) = H5 at s5 h3 h4 h5 ⊢
        have w4 : way = 8 \/ way = 9 \/ way = 10 \/ way = 11 := by lia
        rcases w4 with rfl | rfl | rfl | rfl
        · exact ⟨_, rfl, _, _, rfl, rfl, l, _, _, _, rfl, rfl, SqL.of h5, atI_nat (j := 0) rfl, q _ _ s5 ⟨t3, rfl, by rw [h3, List.map_append]; rfl, flat_ints _⟩⟩
        · exact ⟨_, rfl, _, _, rfl, rfl, l, _, _, _, rfl, rfl, SqL.of h5, atI_nat (j := 1) rfl, q _ _ s5 ⟨rfl, rfl⟩⟩
        · exact ⟨_, rfl, _, _, rfl, rfl, l, _, _, _, rfl, rfl, SqL.of h5, atI_nat (j := 2) rfl, q _ _ s5 ⟨rfl, rfl⟩⟩
        · exact ⟨_, rfl, _, _, rfl, rfl, l, _, _, _, rfl, rfl, SqL.of h5, atI_nat (j := 3) rfl, q _ _ s5 ⟨d, rfl, h4⟩⟩
      rw [decide_eq_false (show ¬ (7 : Int) < way from c7)]
      have h8 : way < 8 := by lia
      have al := al h8
      have eT := eT h8
      have eD1 := eD1 h8
      clear eD
      rw [if_neg (show ¬ way = 8 by lia), if_neg (show ¬ way = 9 by lia), if_neg (show ¬ way = 10 by lia), if_neg (show ¬ way = 11 by lia)] at q
      refine iteF (hM _ _ ?_)
      clear hM M
      refine seq_abs fun M hM => ?_
      refine ⟨_, rfl, _, _, rfl, rfl, ⟨by decide, by decide⟩, _, _, rfl, rfl, ⟨by decide, by decide, by decide⟩, _, _, rfl, rfl, pos58, ?_⟩
      show gName 5 (V.int (cell / 96 % (10 : Int) ^ 58)) _ _ _
      generalize cell / 96 % (10 : Int) ^ 58 = far at q ⊢
      refine hM _ _ ?_
      clear hM M
      try dsimp only [List.set]
      refine seq_abs fun M hM => ?_
      have ka := at_ord al
      have klog : (at0 ord a).natAbs.log2 < 1920 := by
        have e : at0 ord (a : Int) = ord[a] := by
          unfold at0
          rw [Int.toNat_natCast, List.getD_eq_getElem?_getD, List.getElem?_eq_getElem al]
          rfl
        have := mem_ups.mp (pm.mem_iff.mp (List.getElem_mem al))
        rw [e]
        exact log_small (by lia)
      generalize at0 ord (a : Int) = k0 at q ka klog
      have fin : ∀ (v : V) (H7 : Hp), Same H H7 -> Hold0 H7 v (oddT ord.length far k0 way) -> M [some (.ref o), some (.int cell), some (.int (ord.length : Int)), some (.int way), some (.int (a : Int)), some (.int far), some v] H7 := fun v H7 s7 g7 => hM _ _ (by
        clear hM
        refine ⟨_, rfl, _, rfl, _, rfl, o, _, rfl, SqL.of (s7 _ _ ho), fun p1 hp1 => ?_⟩
        rw [eT]
        have s1 := Same.new (o := HO.lst ((ord.take a).map V.int)) hp1
        have h1 : (upd H7 p1 (.lst ((ord.take a).map V.int))) p1 = some (.lst ((ord.take a).map V.int)) := upd_same
        replace g7 := g7.same s1
        replace s1 := s7.trans s1
        generalize upd H7 p1 (.lst ((ord.take a).map V.int)) = H1 at s1 h1 g7 ⊢
        refine ⟨_, rfl, by show 1 <= sizeLine; decide, fun p2 hp2 => ?_⟩
        have s2 := Same.new (o := HO.lst [v]) hp2
        have h2 : (upd H1 p2 (.lst [v])) p2 = some (.lst [v]) := upd_same
        replace h1 := s2 _ _ h1
        replace g7 := g7.same s2
        replace s2 := s1.trans s2
        generalize upd H1 p2 (.lst [v]) = H2 at s2 h1 h2 g7 ⊢
        refine ⟨p1, p2, _, _, rfl, rfl, h1, h2, ?_, fun p3 hp3 => ?_⟩
        · rw [List.length_map, List.length_take]
          exact sz _ (show min a ord.length + 1 <= 40 by lia)
        have s3 := Same.new (o := HO.lst ((ord.take a).map V.int ++ [v])) hp3
        have h3 : (upd H2 p3 (.lst ((ord.take a).map V.int ++ [v]))) p3 = some (.lst ((ord.take a).map V.int ++ [v])) := upd_same
        replace g7 := g7.same s3
        replace s3 := s2.trans s3
        generalize upd H2 p3 (.lst ((ord.take a).map V.int ++ [v])) = H3 at s3 h3 g7 ⊢
        refine ⟨_, rfl, _, rfl, _, _, rfl, rfl, _, rfl, o, _, rfl, SqL.of (s3 _ _ ho), fun p4 hp4 => ?_⟩
        rw [eD1]
        have s4 := Same.new (o := HO.lst ((ord.drop (a + 1)).map V.int)) hp4
        have h4 : (upd H3 p4 (.lst ((ord.drop (a + 1)).map V.int))) p4 = some (.lst ((ord.drop (a + 1)).map V.int)) := upd_same
        replace h3 := s4 _ _ h3
        replace g7 := g7.same s4
        replace s4 := s3.trans s4
        generalize upd H3 p4 (.lst ((ord.drop (a + 1)).map V.int)) = H4 at s4 h3 h4 g7 ⊢
        refine ⟨p3, p4, _, _, rfl, rfl, h3, h4, ?_, fun p5 hp5 => ?_⟩
        · rw [List.length_append, List.length_map, List.length_map, List.length_take, List.length_drop]
          exact sz _ (show min a ord.length + 1 + (ord.length - (a + 1)) <= 40 by lia)
        have s5 := Same.new (o := HO.lst ((ord.take a).map V.int ++ [v] ++ (ord.drop (a + 1)).map V.int)) hp5
        exact q _ _ (s4.trans s5) ⟨p5, _, rfl, upd_same, pair_app (pair_app (pair_fi _ _) (.cons (g7.same s5) .nil)) (pair_fi _ _)⟩)
      clear hM q
      refine fun dp hdp => ?_
      have s1 := Same.new (o := HO.dK []) hdp
      have hd1 : (upd H dp (.dK [])) dp = some (.dK []) := upd_same
      generalize upd H dp (.dK []) = H1 at s1 hd1 ⊢
      refine ⟨_, rfl, _, rfl, _, _, rfl, rfl, ?_⟩
      refine ⟨_, rfl, _, rfl, _, _, rfl, rfl, ?_⟩
      refine ⟨_, rfl, _, rfl, o, _, _, _, rfl, rfl, SqL.of (s1 _ _ ho), ka, k0, rfl, klog, ?_⟩
      refine fun d3 hd3 => ?_
      have n3 := ne_ref hd1 hd3
      have s2 := Same.new (o := HO.dK []) hd3
      have h2 : (upd H1 d3 (.dK [])) d3 = some (.dK []) := upd_same
      replace hd1 := s2 _ _ hd1
      replace s2 := s1.trans s2
      generalize upd H1 d3 (.dK []) = H2 at s2 h2 hd1 ⊢
      refine ⟨by show 3 <= sizeLine; decide, fun l3 hl3 => ?_⟩
      have s3 := Same.new (o := HO.lst [.str (toString k0), .non, .ref d3]) hl3
      have h3 : (upd H2 l3 (.lst [.str (toString k0), .non, .ref d3])) l3 = some (.lst [.str (toString k0), .non, .ref d3]) := upd_same
      replace hd1 := s3 _ _ hd1
      replace h2 := s3 _ _ h2
      replace s3 := s2.trans s3
      generalize upd H2 l3 (.lst [.str (toString k0), .non, .ref d3]) = H3 at s3 h2 h3 hd1 ⊢
      obtain ⟨x3, a3, g3, m3⟩ : ∃ x, atI ([.str (toString k0), .non, .ref d3] : List V) (far % 3) = some x /\ Hold0 H3 x (if far % 3 = 0 then .fl (.str (toString k0)) else if far % 3 = 1 then .fl .non else .di) /\ x ≠ .ref dp := by
        have : far % 3 = 0 \/ far % 3 = 1 \/ far % 3 = 2 := by lia
        rcases this with e | e | e
        · rw [e]; exact ⟨_, atI_nat (j := 0) rfl, ⟨rfl, rfl⟩, fun z => nomatch z⟩
        · rw [e]; exact ⟨_, atI_nat (j := 1) rfl, ⟨rfl, rfl⟩, fun z => nomatch z⟩
        · rw [e]; exact ⟨_, atI_nat (j := 2) rfl, ⟨d3, rfl, h2⟩, n3⟩
      refine ⟨_, rfl, _, _, rfl, rfl, (by show (0 : Int) < 3; decide), l3, _, _, x3, rfl, rfl, SqL.of h3, a3, ?_⟩
      refine ⟨_, rfl, _, rfl, o, _, _, _, rfl, rfl, SqL.of (s3 _ _ ho), ka, by show 1 <= sizeLine; decide, fun t4 ht4 => ?_⟩
      have n4 := ne_ref hd1 ht4
      have s4 := Same.new (o := HO.tup [.int k0]) ht4
      have h4 : (upd H3 t4 (.tup [.int k0])) t4 = some (.tup [.int k0]) := upd_same
      replace hd1 := s4 _ _ hd1
      replace g3 := g3.same s4
      replace s4 := s3.trans s4
      generalize upd H3 t4 (.tup [.int k0]) = H4 at s4 h4 g3 hd1 ⊢
      refine ⟨by show 1 <= sizeLine; decide, fun l4 hl4 => ?_⟩
      have n5 := ne_ref hd1 hl4
      have s5 := Same.new (o := HO.lst [.int 0]) hl4
      have h5 : (upd H4 l4 (.lst [.int 0])) l4 = some (.lst [.int 0]) := upd_same
      replace hd1 := s5 _ _ hd1
      replace g3 := g3.same s5
      replace h4 := s5 _ _ h4
      replace s5 := s4.trans s5
      generalize upd H4 l4 (.lst [.int 0]) = H5 at s5 h4 h5 g3 hd1 ⊢
      refine ⟨by show 2 <= sizeLine; decide, fun l5 hl5 => ?_⟩
      have s6 := Same.new (o := HO.lst [.ref t4, .ref l4]) hl5
      have h6 : (upd H5 l5 (.lst [.ref t4, .ref l4])) l5 = some (.lst [.ref t4, .ref l4]) := upd_same
      replace hd1 := s6 _ _ hd1
      replace g3 := g3.same s6
      replace h4 := s6 _ _ h4
      replace h5 := s6 _ _ h5
      replace s6 := s5.trans s6
      generalize upd H5 l5 (.lst [.ref t4, .ref l4]) = H6 at s6 h4 h5 h6 g3 hd1 ⊢
      obtain ⟨x4, a4, g4, m4⟩ : ∃ x, atI ([.ref t4, .ref l4] : List V) (far % 2) = some x /\ Hold0 H6 x (if far % 2 = 0 then .tu [.int k0] else .ls [.int 0]) /\ x ≠ .ref dp := by
        have : far % 2 = 0 \/ far % 2 = 1 := by lia
        have fz : ∀ z : Int, ∀ y ∈ ([.int z] : List V), flatV y = true := fun z y hy => by rw [List.mem_singleton.mp hy]; rfl
        rcases this with e | e
        · rw [e]; exact ⟨_, atI_nat (j := 0) rfl, ⟨t4, rfl, h4, fz _⟩, n4⟩
        · rw [e]; exact ⟨_, atI_nat (j := 1) rfl, ⟨l4, rfl, h5, fz _⟩, n5⟩
      refine ⟨_, rfl, _, _, rfl, rfl, (by show (0 : Int) < 2; decide), l5, _, _, x4, rfl, rfl, SqL.of h6, a4, ?_⟩
      refine ⟨hd1, [((.inl 3 : Key), V.int ((ord.length : Int) + far)), ((.inl 4 : Key), V.int (-1 - far)), ((.inl 6 : Key), x3), ((.inl 7 : Key), x4)], rfl, by show 4 <= 15; decide, ?_⟩
      have s7 : Same H (upd H6 dp (HO.dK (mergeK [] [((.inl 3 : Key), V.int ((ord.length : Int) + far)), ((.inl 4 : Key), V.int (-1 - far)), ((.inl 6 : Key), x3), ((.inl 7 : Key), x4)]))) := put_fresh s6 hdp
      have g3' := hold_upd (o := HO.dK (mergeK [] [((.inl 3 : Key), V.int ((ord.length : Int) + far)), ((.inl 4 : Key), V.int (-1 - far)), ((.inl 6 : Key), x3), ((.inl 7 : Key), x4)])) g3 m3
      have g4' := hold_upd (o := HO.dK (mergeK [] [((.inl 3 : Key), V.int ((ord.length : Int) + far)), ((.inl 4 : Key), V.int (-1 - far)), ((.inl 6 : Key), x3), ((.inl 7 : Key), x4)])) g4 m4
      have w4 : way = 3 \/ way = 4 \/ way = 6 \/ way = 7 := by lia
      have h7 : (upd H6 dp (HO.dK (mergeK [] [((.inl 3 : Key), V.int ((ord.length : Int) + far)), ((.inl 4 : Key), V.int (-1 - far)), ((.inl 6 : Key), x3), ((.inl 7 : Key), x4)]))) dp = some (HO.dK [((.inl 3 : Key), V.int ((ord.length : Int) + far)), ((.inl 4 : Key), V.int (-1 - far)), ((.inl 6 : Key), x3), ((.inl 7 : Key), x4)]) := upd_same
      generalize upd H6 dp (HO.dK (mergeK [] [((.inl 3 : Key), V.int ((ord.length : Int) + far)), ((.inl 4 : Key), V.int (-1 - far)), ((.inl 6 : Key), x3), ((.inl 7 : Key), x4)])) = H7 at s7 g3' g4' h7 ⊢
      rcases w4 with rfl | rfl | rfl | rfl
      · exact ⟨_, rfl, dp, _, rfl, DGet.k (k := .inl 3) h7, fin _ _ s7 ⟨rfl, rfl⟩⟩
      · exact ⟨_, rfl, dp, _, rfl, DGet.k (k := .inl 4) h7, fin _ _ s7 ⟨rfl, rfl⟩⟩
      · exact ⟨_, rfl, dp, _, rfl, DGet.k (k := .inl 6) h7, fin _ _ s7 g3'⟩
      · exact ⟨_, rfl, dp, _, rfl, DGet.k (k := .inl 7) h7, fin _ _ s7 g4'⟩)
    refine ⟨_, rfl, rfl, _, rfl, ?_⟩
    rw [vF cw]
    refine iteF ⟨_, rfl, rfl, _, rfl, ?_⟩
    by_cases m0 : ord.length = 0
    · rw [vT (show (ord.length : Int) = 0 by lia)]
      refine iteT ⟨_, rfl, _, _, rfl, rfl, _, rfl, ?_⟩
      rw [decide_eq_false (show ¬ way < 8 from fun h => c0 (.inr ⟨m0, h⟩))]
      exact iteF go
    · rw [vF (show (ord.length : Int) ≠ 0 by lia)]
      exact iteF (iteF go)
end
open PySem.W (subIn kitOne kitAny)
structure ExcR (K : W.Frag) (mg : Str -> Option Value) (C : Addr) (n : Fin 8 -> Addr) (o : Fin 6 -> Addr) (Wc : Addr) (bW : List Value) : Prop where
  s0 : mg "NoOrder" = some (.ref C)
  n0 : mg "NoDrawing" = some (.ref (n 0))
  n1 : mg "NoNumber" = some (.ref (n 1))
  n2 : mg "NoPlaces" = some (.ref (n 2))
  n3 : mg "NoPoint" = some (.ref (n 3))
  n4 : mg "NoSuch" = some (.ref (n 4))
  n5 : mg "NoText" = some (.ref (n 5))
  n6 : mg "NoTie" = some (.ref (n 6))
  n7 : mg "NotApart" = some (.ref (n 7))
  o0 : mg "NoName" = some (.ref (o 0))
  o1 : mg "NoRow" = some (.ref (o 1))
  o2 : mg "NotJoined" = some (.ref (o 2))
  o3 : mg "NotPlane" = some (.ref (o 3))
  o4 : mg "TooMany" = some (.ref (o 4))
  o5 : mg "NoWeb" = some (.ref (o 5))
  hw : mg "WebError" = some (.ref Wc)
  ve : mg "ValueError" = none
  xw : excB K Wc bW = true
  kx : excKB K C = true
  sb : subIn K (.ref C) (.ref Wc) = some true
  yv : kitOne K (.ref C) (.type "ValueError") = some true
  yo : kitOne K (.ref C) (.ref C) = some true
  a8 : kitAny K (.ref C) [.ref (n 0), .ref (n 1), .ref (n 2), .ref (n 3), .ref (n 4), .ref (n 5), .ref (n 6), .ref (n 7)] = some false
  a6 : kitAny K (.ref C) [.ref (o 0), .ref (o 1), .ref (o 2), .ref (o 3), .ref (o 4), .ref (o 5)] = some false
theorem boot_ve : bootBuiltins "ValueError" = some (.type "ValueError") := by first | rfl | decide +kernel
theorem vals_refs {l : List Addr} : ∀ {us : List Value}, Vals (l.map V.ref) us -> us = l.map Value.ref := by
  induction l with
  | nil => intro us h; exact Vals.zero h
  | cons a l ih =>
    intro us h
    cases h with
    | cons r t => rw [ih t, show _ = Value.ref a from r]; rfl
def AskIs (H : Hp) (v : V) (door : Nat) (n : Int) (ps : List (Int × Int)) (t ord : List Int) : Prop :=
  (door = 0 /\ ∃ g, v = .ref g /\ H g = some (.tup ((innP n ps t ord).map V.int))) \/ (door = 1 /\ ∃ g, v = .ref g /\ H g = some (.tup ((outP n ps t ord).map V.int))) \/
  (door = 2 /\ ∃ g, v = .ref g /\ H g = some (.tup ((treeO n ps t ord).map V.int))) \/ (door = 3 /\ ∃ L, PolyIs (trT n ps ord) L /\ PolyAt H v L)
theorem AskIs.same {H H' : Hp} {v : V} {door : Nat} {n : Int} {ps : List (Int × Int)} {t ord : List Int} (h : AskIs H v door n ps t ord) (s : Same H H') : AskIs H' v door n ps t ord := by
  rcases h with ⟨e, g, e2, h⟩ | ⟨e, g, e2, h⟩ | ⟨e, g, e2, h⟩ | ⟨e, L, p, h⟩
  · exact .inl ⟨e, g, e2, s _ _ h⟩
  · exact .inr (.inl ⟨e, g, e2, s _ _ h⟩)
  · exact .inr (.inr (.inl ⟨e, g, e2, s _ _ h⟩))
  · exact .inr (.inr (.inr ⟨e, L, p, h.same s⟩))
theorem ints_same {K : W.Frag} {H : Hp} {g g' : Addr} {ns : List Int} (h : H g = some (.tup (ns.map V.int))) (h' : H g' = some (.tup (ns.map V.int))) : SameD K H 2 (.ref g) (.ref g') := .tup (SqT.of h) (SqT.of h') rfl fun i x y e1 e2 => by
  rw [e1] at e2
  cases e2
  exact .flat (flat_ints _ _ (List.mem_of_getElem? e1))
theorem ask_same {K : W.Frag} {H : Hp} {v v' : V} {door : Nat} {n : Int} {ps : List (Int × Int)} {t ord : List Int} (h : AskIs H v door n ps t ord) (h' : AskIs H v' door n ps t ord) : SameD K H 2 v v' := by
  rcases h with ⟨rfl, g, rfl, h⟩ | ⟨rfl, g, rfl, h⟩ | ⟨rfl, g, rfl, h⟩ | ⟨rfl, L, p, h⟩
  · rcases h' with ⟨_, g', rfl, h'⟩ | ⟨e, _⟩ | ⟨e, _⟩ | ⟨e, _⟩
    · exact ints_same h h'
    all_goals (cases e)
  · rcases h' with ⟨e, _⟩ | ⟨_, g', rfl, h'⟩ | ⟨e, _⟩ | ⟨e, _⟩
    · cases e
    · exact ints_same h h'
    all_goals (cases e)
  · rcases h' with ⟨e, _⟩ | ⟨e, _⟩ | ⟨_, g', rfl, h'⟩ | ⟨e, _⟩
    · cases e
    · cases e
    · exact ints_same h h'
    · cases e
  · rcases h' with ⟨e, _⟩ | ⟨e, _⟩ | ⟨e, _⟩ | ⟨_, M, p', h'⟩
    · cases e
    · cases e
    · cases e
    have e : L = M := p.uniq p' fun _ => rfl
    subst e
    obtain ⟨c, xs, rfl, hc, hx⟩ := h
    obtain ⟨c', xs', rfl, hc', hx'⟩ := h'
    refine .tup (SqT.of hc) (SqT.of hc') (by rw [Paired.length hx, Paired.length hx']) fun i x y e1 e2 => ?_
    obtain ⟨u, f1, g1, rfl, k1⟩ := Paired.at hx e1
    obtain ⟨u', f2, g2, rfl, k2⟩ := Paired.at hx' e2
    rw [f1] at f2
    cases f2
    refine .tup (SqT.of k1) (SqT.of k2) rfl fun j x y e3 e4 => ?_
    rw [e3] at e4
    cases e4
    refine .flat ?_
    have := List.mem_of_getElem? e3
    simp only [List.mem_cons, List.not_mem_nil, or_false] at this
    rcases this with rfl | rfl | rfl <;> rfl
def spAskG (K : W.Frag) : Sp := fun vs H Q _ => ∃ (kd : Kd) (wv x : V) (tr : Addr) (door : Nat) (n : Int) (ps : List (Int × Int)) (t ord : List Int), vs = [wv, .int door, .ref tr, x] /\ door < 4 /\ WebAt H wv n ps /\ WebOk n ps /\ ps.length <= 6 /\ SqT K H tr (t.map V.int) /\ Ks ps.length t /\ t.length <= 8 /\ OrdAt kd H x ps.length ord /\ ∀ v H', Same H H' -> AskIs H' v door n ps t ord -> Q v H'
def spAskB (K : W.Frag) (C : Addr) : Sp := fun vs H _ E => ∃ (wv x y : V) (door : Nat) (n : Int) (ps : List (Int × Int)), vs = [wv, .int door, y, x] /\ door < 4 /\ WebAt H wv n ps /\ ps.length <= 8 /\ BadOrd K H ps.length x /\ ∀ H', Same H H' -> E (.ref C) none H'
def spRefused (K : W.Frag) : Sp := fun vs H Q _ => ∃ (wv x y : V) (door : Nat) (n : Int) (ps : List (Int × Int)), vs = [wv, .int door, y, x] /\ door < 4 /\ WebAt H wv n ps /\ ps.length <= 8 /\ BadOrd K H ps.length x /\ ∀ H', Same H H' -> Q (.bl true) H'
section
variable {P : Program} {w : World} {K : W.Frag} {mg : Str -> Option Value} {base : Heap} {C : Addr} {n : Fin 8 -> Addr} {o : Fin 6 -> Addr} {Wc : Addr} {bW : List Value}
theorem scAsk : FnScope ["_law_web_here", "_law_door", "_law_tree", "_law_order_here"] ["_law_web_here", "_law_door", "_law_tree", "_law_order_here"] (defScope sAsked) := ⟨rfl, rfl, rfl, by decide +kernel, rfl, by decide +kernel, by decide +kernel⟩
theorem d_askG (S : Src K mg "_law_asked" sAsked ["_law_web_here", "_law_door", "_law_tree", "_law_order_here"]) (D0 : DefD P w K mg base 4 "inner_ties" ["web", "tree", "order"] (spTies K innP)) (D1 : DefD P w K mg base 4 "outer_ties" ["web", "tree", "order"] (spTies K outP)) (D2 : DefD P w K mg base 5 "tree_of" ["web", "pick", "order"] (spTreeOf K)) (D3 : DefD P w K mg base 5 "by_trees" ["web", "order"] (spByT K)) : Def P w K mg base 6 "_law_asked" ["_law_web_here", "_law_door", "_law_tree", "_law_order_here"] (spAskG K) := by
  refine S.def scAsk (fun vs H Q E h => ?_) (fun f cdv A outer s H vs Q E hr h => ?_)
  · obtain ⟨_, _, _, _, _, _, _, _, _, rfl, _⟩ := h; rfl
  · obtain ⟨kd, wv, x, tr, door, nn, ps, t, ord, rfl, d4, W, ok, h6, ht, ks, tl, oa, q⟩ := h
    have hr4 : Room 4 _ := hr.mono (by decide)
    refine ⟨_, pss_cons (ps_if (pt_cmpR op_eq (pv 1) pe_int (nomark _)) (pss_one (ps_ret (pe_defD D0 hr4 rfl (pa_cons (pv 0) (pa_cons (pv 2) (pa_cons (pv 3) pa_nil)))))) pss_nil)
      (pss_cons (ps_if (pt_cmpR op_eq (pv 1) pe_int (nomark _)) (pss_one (ps_ret (pe_defD D1 hr4 rfl (pa_cons (pv 0) (pa_cons (pv 2) (pa_cons (pv 3) pa_nil)))))) pss_nil)
      (pss_cons (ps_if (pt_cmpR op_eq (pv 1) pe_int (nomark _)) (pss_one (ps_ret (pe_defD D2 hr rfl (pa_cons (pv 0) (pa_cons (pv 2) (pa_cons (pv 3) pa_nil)))))) pss_nil)
      (pss_one (ps_ret (pe_defD D3 hr rfl (pa_cons (pv 0) (pa_cons (pv 3) pa_nil))))))), ?_⟩
    have dd : door = 0 \/ door = 1 \/ door = 2 \/ door = 3 := by lia
    rcases dd with rfl | rfl | rfl | rfl
    · exact ⟨_, rfl, rfl, _, rfl, iteT ⟨_, rfl, _, rfl, _, rfl, kd, wv, x, tr, nn, ps, t, ord, rfl, W, ok, ht, ks, tl, oa, fun g H' s' hg => q _ H' s' (.inl ⟨rfl, g, rfl, hg⟩)⟩⟩
    · exact ⟨_, rfl, rfl, _, rfl, iteF ⟨_, rfl, rfl, _, rfl, iteT ⟨_, rfl, _, rfl, _, rfl, kd, wv, x, tr, nn, ps, t, ord, rfl, W, ok, ht, ks, tl, oa, fun g H' s' hg => q _ H' s' (.inr (.inl ⟨rfl, g, rfl, hg⟩))⟩⟩⟩
    · exact ⟨_, rfl, rfl, _, rfl, iteF ⟨_, rfl, rfl, _, rfl, iteF ⟨_, rfl, rfl, _, rfl, iteT ⟨_, rfl, _, rfl, _, rfl, kd, wv, x, tr, nn, ps, t, ord, rfl, W, ok, ht, oa, fun g H' s' hg => q _ H' s' (.inr (.inr (.inl ⟨rfl, g, rfl, hg⟩)))⟩⟩⟩⟩
    · exact ⟨_, rfl, rfl, _, rfl, iteF ⟨_, rfl, rfl, _, rfl, iteF ⟨_, rfl, rfl, _, rfl, iteF ⟨_, rfl, _, rfl, kd, wv, x, nn, ps, ord, rfl, W, ok, h6, oa, fun v L H' s' pi pa => q v H' s' (.inr (.inr (.inr ⟨rfl, L, pi, pa⟩)))⟩⟩⟩⟩
theorem d_askB (S : Src K mg "_law_asked" sAsked ["_law_web_here", "_law_door", "_law_tree", "_law_order_here"]) (D0 : DefQ P w K mg base 4 "inner_ties" ["web", "tree", "order"] (spToldB3 K C)) (D1 : DefQ P w K mg base 4 "outer_ties" ["web", "tree", "order"] (spToldB3 K C)) (D2 : DefQ P w K mg base 5 "tree_of" ["web", "pick", "order"] (spToldB3 K C)) (D3 : DefQ P w K mg base 5 "by_trees" ["web", "order"] (spToldB K C)) : DefQ P w K mg base 6 "_law_asked" ["_law_web_here", "_law_door", "_law_tree", "_law_order_here"] (spAskB K C) := by
  refine Src.defQ S scAsk (fun vs H Q E h => ?_) (fun f cdv A outer s H vs Q E hr h => ?_)
  · obtain ⟨_, _, _, _, _, _, rfl, _⟩ := h; rfl
  · obtain ⟨wv, x, y, door, nn, ps, rfl, d4, W, h8, bo, q⟩ := h
    have hr4 : Room 4 _ := hr.mono (by decide)
    refine ⟨_, pss_cons (ps_if (pt_cmpR op_eq (pv 1) pe_int (nomark _)) (pss_one (ps_ret (pe_defPQ D0 hr4 rfl (pa_cons (pv 0) (pa_cons (pv 2) (pa_cons (pv 3) pa_nil)))))) pss_nil)
      (pss_cons (ps_if (pt_cmpR op_eq (pv 1) pe_int (nomark _)) (pss_one (ps_ret (pe_defPQ D1 hr4 rfl (pa_cons (pv 0) (pa_cons (pv 2) (pa_cons (pv 3) pa_nil)))))) pss_nil)
      (pss_cons (ps_if (pt_cmpR op_eq (pv 1) pe_int (nomark _)) (pss_one (ps_ret (pe_defPQ D2 hr rfl (pa_cons (pv 0) (pa_cons (pv 2) (pa_cons (pv 3) pa_nil)))))) pss_nil)
      (pss_one (ps_ret (pe_defPQ D3 hr rfl (pa_cons (pv 0) (pa_cons (pv 3) pa_nil))))))), ?_⟩
    have dd : door = 0 \/ door = 1 \/ door = 2 \/ door = 3 := by lia
    rcases dd with rfl | rfl | rfl | rfl
    · exact ⟨_, rfl, rfl, _, rfl, iteT ⟨_, rfl, _, rfl, _, rfl, wv, y, x, nn, ps, rfl, W, h8, bo, q⟩⟩
    · exact ⟨_, rfl, rfl, _, rfl, iteF ⟨_, rfl, rfl, _, rfl, iteT ⟨_, rfl, _, rfl, _, rfl, wv, y, x, nn, ps, rfl, W, h8, bo, q⟩⟩⟩
    · exact ⟨_, rfl, rfl, _, rfl, iteF ⟨_, rfl, rfl, _, rfl, iteF ⟨_, rfl, rfl, _, rfl, iteT ⟨_, rfl, _, rfl, _, rfl, wv, y, x, nn, ps, rfl, W, h8, bo, q⟩⟩⟩⟩
    · exact ⟨_, rfl, rfl, _, rfl, iteF ⟨_, rfl, rfl, _, rfl, iteF ⟨_, rfl, rfl, _, rfl, iteF ⟨_, rfl, _, rfl, wv, x, nn, ps, rfl, W, h8, bo, q⟩⟩⟩⟩
theorem scRefd : FnScope ["_law_web_here", "_law_door", "_law_tree", "_law_order_here", "e", "_law_some", "_law_more"] ["_law_web_here", "_law_door", "_law_tree", "_law_order_here"] (defScope sRefused) := ⟨rfl, rfl, rfl, by decide +kernel, rfl, by decide +kernel, by decide +kernel⟩
theorem d_refused (T : Txt K mg) (X : ExcR K mg C n o Wc bW) (S : Src K mg "_law_refused" sRefused ["_law_web_here", "_law_door", "_law_tree", "_law_order_here"]) (DA : DefQ P w K mg base 6 "_law_asked" ["_law_web_here", "_law_door", "_law_tree", "_law_order_here"] (spAskB K C)) : Def P w K mg base 7 "_law_refused" ["_law_web_here", "_law_door", "_law_tree", "_law_order_here"] (spRefused K) := by
  refine S.def scRefd (fun vs H Q E h => ?_) (fun f cdv A outer s H vs Q E hr h => ?_)
  · obtain ⟨_, _, _, _, _, _, rfl, _⟩ := h; rfl
  · obtain ⟨wv, x, y, door, nn, ps, rfl, d4, W, h8, bo, q⟩ := h
    refine ⟨_, pss_cons (ps_tryQ (i := 4) rfl X.hw X.xw scRefd.nd rfl rfl (pxqs_one (pxq_call DA hr rfl (pa_cons (pv 0) (pa_cons (pv 1) (pa_cons (pv 2) (pa_cons (pv 3) pa_nil)))) (fun _ _ z => z)))
        (fun v => pss_cons (ps_set (i := 5) scRefd.nd rfl (Or.inl rfl) (pe_callB (r := rIsPs K) call_isPs (by rfl) T.isi boot_isi (pa_cons (pv 4) (pa_cons (pe_tup (pa_cons (pe_glob (v := .ref (n 0)) rfl X.n0 rfl) (pa_cons (pe_glob (v := .ref (n 1)) rfl X.n1 rfl) (pa_cons (pe_glob (v := .ref (n 2)) rfl X.n2 rfl) (pa_cons (pe_glob (v := .ref (n 3)) rfl X.n3 rfl) (pa_cons (pe_glob (v := .ref (n 4)) rfl X.n4 rfl) (pa_cons (pe_glob (v := .ref (n 5)) rfl X.n5 rfl) (pa_cons (pe_glob (v := .ref (n 6)) rfl X.n6 rfl) (pa_cons (pe_glob (v := .ref (n 7)) rfl X.n7 rfl) pa_nil))))))))) pa_nil))))
          (pss_cons (ps_set (i := 6) scRefd.nd rfl (Or.inl rfl) (pe_callB (r := rIsPs K) call_isPs (by rfl) T.isi boot_isi (pa_cons (pv 4) (pa_cons (pe_tup (pa_cons (pe_glob (v := .ref (o 0)) rfl X.o0 rfl) (pa_cons (pe_glob (v := .ref (o 1)) rfl X.o1 rfl) (pa_cons (pe_glob (v := .ref (o 2)) rfl X.o2 rfl) (pa_cons (pe_glob (v := .ref (o 3)) rfl X.o3 rfl) (pa_cons (pe_glob (v := .ref (o 4)) rfl X.o4 rfl) (pa_cons (pe_glob (v := .ref (o 5)) rfl X.o5 rfl) pa_nil))))))) pa_nil))))
          (pss_one (ps_ret (pe_and (pe_callB (r := rIsP K) call_isP (by rfl) T.isi boot_isi (pa_cons (pv 4) (pa_cons (pe_glob (v := .ref C) rfl X.s0 rfl) pa_nil))) (pe_and (pe_callB (r := rIsP K) call_isP (by rfl) T.isi boot_isi (pa_cons (pv 4) (pa_cons (pe_bltn (v := .ty "ValueError") rfl X.ve boot_ve rfl) pa_nil))) (pe_and (pe_not (pv 5)) (pe_one (pe_not (pv 6)))))))))) rfl rfl)
      (pss_one (ps_ret pe_bl)), ?_⟩
    have Z := L2.excK_of X.kx
    refine ⟨_, rfl, _, rfl, _, rfl, _, rfl, wv, x, y, door, nn, ps, rfl, d4, W, h8, bo, fun H' s' => ⟨C, rfl, X.sb, fun ea hea => ?_⟩⟩
    have he : (upd H' ea (excP ea C none)) ea = some (excP ea C none) := upd_same
    have s1 := s'.trans (Same.new (o := excP ea C none) hea)
    generalize upd H' ea (excP ea C none) = H1 at he s1 ⊢
    refine ⟨_, rfl, by show 8 <= sizeLine; decide, fun p1 hp1 => ?_⟩
    have s2 := Same.new (o := HO.tup [.ref (n 0), .ref (n 1), .ref (n 2), .ref (n 3), .ref (n 4), .ref (n 5), .ref (n 6), .ref (n 7)]) hp1
    refine ⟨ea, C, p1, none, [.ref (n 0), .ref (n 1), .ref (n 2), .ref (n 3), .ref (n 4), .ref (n 5), .ref (n 6), .ref (n 7)], false, rfl, SqT.of upd_same, s2 _ _ he, Z, fun us r => by rw [vals_refs (l := [n 0, n 1, n 2, n 3, n 4, n 5, n 6, n 7]) r]; exact X.a8, ?_⟩
    replace he := s2 _ _ he
    replace s2 := s1.trans s2
    generalize upd H1 p1 (HO.tup [.ref (n 0), .ref (n 1), .ref (n 2), .ref (n 3), .ref (n 4), .ref (n 5), .ref (n 6), .ref (n 7)]) = H2 at s2 he ⊢
    refine ⟨_, rfl, by show 6 <= sizeLine; decide, fun p2 hp2 => ?_⟩
    have s3 := Same.new (o := HO.tup [.ref (o 0), .ref (o 1), .ref (o 2), .ref (o 3), .ref (o 4), .ref (o 5)]) hp2
    refine ⟨ea, C, p2, none, [.ref (o 0), .ref (o 1), .ref (o 2), .ref (o 3), .ref (o 4), .ref (o 5)], false, rfl, SqT.of upd_same, s3 _ _ he, Z, fun us r => by rw [vals_refs (l := [o 0, o 1, o 2, o 3, o 4, o 5]) r]; exact X.a6, ?_⟩
    replace he := s3 _ _ he
    replace s3 := s2.trans s3
    generalize upd H2 p2 (HO.tup [.ref (o 0), .ref (o 1), .ref (o 2), .ref (o 3), .ref (o 4), .ref (o 5)]) = H3 at s3 he ⊢
    exact ⟨_, rfl, ea, C, none, _, _, _, rfl, rfl, he, Z, X.yo, _, rfl, iteT ⟨_, rfl, ea, C, none, _, _, _, rfl, rfl, he, Z, X.yv, _, rfl, iteT ⟨_, rfl, _, rfl, _, rfl, iteT ⟨_, rfl, _, rfl, q _ s3⟩⟩⟩⟩
end
def spLaw (K : W.Frag) : Sp := fun vs H Q _ => ∃ (a : Addr) (ns : List Int), vs = [.ref a] /\ SqL K H a (ns.map V.int) /\ ns.length <= 63 /\ ∀ H', Q (.bl true) H'
theorem cut_any (ns : List Int) (lo hi : Option Int) : ∃ ms : List Int, cutV (ns.map V.int) lo hi = ms.map V.int /\ ms.length <= ns.length := by
  refine ⟨(ns.drop (HT.sIx (ns.map V.int).length 0 lo)).take (HT.sIx (ns.map V.int).length (ns.map V.int).length hi - HT.sIx (ns.map V.int).length 0 lo), ?_, ?_⟩
  · unfold cutV
    rw [List.map_take, List.map_drop]
  · rw [List.length_take, List.length_drop]
    lia
def rTupF (K : W.Frag) : List V -> Hp -> VK -> Prop := fun xs H Q => ∃ p ys, xs = [.ref p] /\ ((SqL K H p ys /\ ∀ (l : Addr) (o : Obj), o.cls = .type "tuple" -> o.dict = none -> H l = none -> Q (.ref l) (upd H l (.frz o (.tup ys)))) \/ (SqT K H p ys /\ Q (.ref p) H))
theorem call_tupleFK {X : Cx} {K : W.Frag} (h : X.K = K := by rfl) : CallR X (.type "tuple") (rTupF K) := h ▸ call_tupleF
theorem ndDOTW : (["_law_door", "_law_order_here", "_law_tree", "_law_web_here"] : List Str).Nodup := by decide +kernel
def Asks (H : Hp) (ys : List V) (j : Nat) (n : Int) (ps : List (Int × Int)) (t ord : List Int) : Prop := ys.length = j /\ ∀ (i : Nat) (y : V), ys[i]? = some y -> AskIs H y i n ps t ord
theorem Asks.same {H H' : Hp} {ys : List V} {j : Nat} {n : Int} {ps : List (Int × Int)} {t ord : List Int} (h : Asks H ys j n ps t ord) (s : Same H H') : Asks H' ys j n ps t ord := ⟨h.1, fun i y e => (h.2 i y e).same s⟩
theorem Asks.snoc {H : Hp} {ys : List V} {y : V} {j : Nat} {n : Int} {ps : List (Int × Int)} {t ord : List Int} (h : Asks H ys j n ps t ord) (hy : AskIs H y j n ps t ord) : Asks H (ys ++ [y]) (j + 1) n ps t ord := by
  refine ⟨by rw [List.length_append, h.1]; rfl, fun i z e => ?_⟩
  by_cases c : i < ys.length
  · rw [List.getElem?_append_left c] at e
    exact h.2 i z e
  · rw [List.getElem?_append_right (by lia)] at e
    have i0 : i - ys.length = 0 := by
      have := (List.getElem?_eq_some_iff.mp e).1
      have : i - ys.length < 1 := this
      lia
    rw [i0] at e
    cases e
    have : i = j := by have := h.1; lia
    rw [this]
    exact hy
section
variable {P : Program} {w : World} {K : W.Frag} {mg : Str -> Option Value} {base : Heap}
seal PSs PS PE PI PA PT PG
theorem scLaw : FnScope ["_law_script", "_law_web_here", "_law_order_here", "_law_trees", "_law_tree", "_law_ahead", "_law_cell", "_law_door", "_law_thing"] ["_law_script"] (defScope sLaw) := ⟨rfl, rfl, rfl, by decide +kernel, rfl, by decide +kernel, by decide +kernel⟩
theorem ok_law {f : Addr} {fd : FuncData} (F : Fun K "law" "law" sLaw f fd) (T : Txt K mg) (DA : Def P w K mg base 1 "_law_at" ["_law_script", "_law_k"] (spAt K)) (DW : Def P w K mg base 2 "_law_web" ["_law_script"] (spWeb5 K)) (DO : Def P w K mg base 2 "_law_order" ["_law_script", "_law_many"] (spOrder K)) (DT : Def P w K mg base 4 "all_trees" ["web"] (spAT K)) (DG : Def P w K mg base 6 "_law_asked" ["_law_web_here", "_law_door", "_law_tree", "_law_order_here"] (spAskG K)) (DB : Def P w K mg base 1 "_law_bad" ["_law_order_here", "_law_cell"] (spBad K)) (DR : Def P w K mg base 7 "_law_refused" ["_law_web_here", "_law_door", "_law_tree", "_law_order_here"] (spRefused K)) : FnOk P w K mg base CX0 8 f fd ["_law_script"] (spLaw K) := by
  refine F.ok scLaw (fun vs H Q E h => ?_) (fun cdv A outer s H vs Q E hr h => ?_)
  · obtain ⟨a, ns, rfl, _⟩ := h; rfl
  · obtain ⟨a, ns, rfl, hq, hlen, q⟩ := h
    have hr1 : Room 1 _ := hr.mono (by decide)
    have hr2 : Room 2 _ := hr.mono (by decide)
    have hr4 : Room 4 _ := hr.mono (by decide)
    have hr6 : Room 6 _ := hr.mono (by decide)
    refine ⟨_, pss_cons (ps_set (i := 1) scLaw.nd rfl (Or.inr rfl) (pe_def DW hr2 rfl (pa_cons (pv 0) pa_nil)))
      (pss_cons (ps_set (i := 2) scLaw.nd rfl (Or.inr rfl) (pe_def DO hr2 rfl (pa_cons (pv 0) (pa_cons (pe_callB (call_lenK K) (by rfl) T.len PySem.boot_len (pa_cons (pe_ix (ix_tupK K) (pv 1) pe_int (fun _ _ => rfl)) pa_nil)) pa_nil))))
      (pss_cons (ps_set (i := 3) scLaw.nd rfl (Or.inl rfl) (pe_def DT hr4 rfl (pa_cons (pv 1) pa_nil)))
      (pss_cons (ps_set (i := 4) scLaw.nd rfl (Or.inr rfl) (pe_ix (ix_listK K) (pv 3) (pe_op op_mod (pe_def DA hr1 rfl (pa_cons (pv 0) (pa_cons pe_int pa_nil))) (pe_callB (call_lenK K) (by rfl) T.len PySem.boot_len (pa_cons (pv 3) pa_nil))) (fun _ _ => rfl)))
      (pss_cons (ps_setComp (i := 5) scLaw.nd rfl (Or.inl rfl) (N' := ["_law_door", "_law_order_here", "_law_tree", "_law_web_here"]) (fr := [none, some 2, some 4, some 1]) (compOk_of (by rfl)) rfl (pi_range1 rfl T.range (pa_cons pe_int pa_nil))
        (fun _ _ _ _ => pg_name (i := 0) ndDOTW rfl (Or.inl rfl) (Or.inr rfl)) (fun _ _ _ _ => pifs_nil) (fun _ _ _ _ => pe_def DG hr6 rfl (pa_cons (pv 3) (pa_cons (pv 0) (pa_cons (pv 2) (pa_cons (pe_callTy (call_list_ofK K) rfl T.list boot_list' (pa_cons (pv 1) pa_nil)) pa_nil))))))
      (pss_cons (ps_for PassesOwn.never rfl (pi_seqK K .l (pe_op op_cat (pe_slice (sl_listK K) (pv 0) (po_some pe_int) (po_some pe_int)) (pe_lst (pa_cons pe_int pa_nil)))) (pg_name (i := 6) scLaw.nd rfl (Or.inl rfl))
        (pss_one (ps_for PassesOwn.never rfl (pi_range1 rfl T.range (pa_cons pe_int pa_nil)) (pg_name (i := 7) scLaw.nd rfl (Or.inl rfl))
          (pss_cons (ps_set (i := 8) scLaw.nd rfl (Or.inl rfl) (pe_def DB hr1 rfl (pa_cons (pv 2) (pa_cons (pv 6) pa_nil))))
          (pss_one (ps_if (PW.pt (pw_or (pt_not (pt_val (pe_def DR hr rfl (pa_cons (pv 1) (pa_cons (pv 7) (pa_cons (pv 4) (pa_cons (pv 8) pa_nil))))))) (pw_or1 (pt_cmpR (r := rSameE K false) (op_neE (units66 hr)) (pv 8) (pe_def DB hr1 rfl (pa_cons (pv 2) (pa_cons (pv 6) pa_nil))) (nomark _))))) (pss_one (ps_ret pe_bl)) pss_nil))))))
      (pss_one (ps_ret (pe_cmpR (op_eqSK K (units66 hr)) (pe_comp (N' := ["_law_door", "_law_order_here", "_law_tree", "_law_web_here"]) (fr := [none, some 2, some 4, some 1]) (compOk_of (by rfl)) rfl (pi_range1 rfl T.range (pa_cons pe_int pa_nil))
        (fun _ _ _ _ => pg_name (i := 0) ndDOTW rfl (Or.inl rfl) (Or.inr rfl)) (fun _ _ _ _ => pifs_nil) (fun _ _ _ _ => pe_def DG hr6 rfl (pa_cons (pv 3) (pa_cons (pv 0) (pa_cons (pv 2) (pa_cons (pe_callTy (call_tupleFK (K := K)) rfl T.tuple boot_tuple' (pa_cons (pv 1) pa_nil)) pa_nil)))))) (pv 5) (nomark _))))))))), ?_⟩
    refine seq_abs fun M hM => ?_
    refine ⟨_, rfl, a, ns, rfl, hq, fun wv n ps H1 s1 W ok h6 => ?_⟩
    show M [some (.ref a), some wv, none, none, none, none, none, none, none] H1
    refine hM _ _ ?_
    clear hM M
    obtain ⟨c, d, xs, rfl, hc, hd, ht⟩ := id W.ex
    have xl : xs.length = ps.length := Paired.length ht
    have i1 : atI ([.int n, .ref d] : List V) 1 = some (.ref d) := atI_nat (j := 1) rfl
    refine seq_abs fun M hM => ?_
    refine ⟨_, rfl, _, rfl, c, _, _, _, rfl, rfl, SqT.of hc, i1, d, xs, rfl, .inr (SqT.of hd), a, ns, ps.length, by rw [xl]; rfl, s1.seq hq, by lia, fun ol ord H2 s2 ho pm => ?_⟩
    show M [some (.ref a), some (.ref c), some (.ref ol), none, none, none, none, none, none] H2
    refine hM _ _ ?_
    clear hM M
    have oll : ord.length = ps.length := by rw [pm.length_eq, ups_len]; lia
    replace W := W.same s2
    replace s2 := s1.trans s2
    clear hc hd ht s1
    refine seq_abs fun M hM => ?_
    refine ⟨_, rfl, .ref c, n, ps, rfl, W, ok, fun g ys H3 s3 _ hg hy => ?_⟩
    show M [some (.ref a), some (.ref c), some (.ref ol), some (.ref g), none, none, none, none, none] H3
    refine hM _ _ ?_
    clear hM M
    replace W := W.same s3
    replace ho := s3 _ _ ho
    replace s3 := s2.trans s3
    have yl : ys.length = (treesP n ps).length := Paired.length hy
    have y0 : 0 < ys.length := by
      rw [yl]
      exact List.length_pos_iff.mpr (trees_ne ok.1.1 ok.1.2 ok.2.1 ok.2.2)
    refine seq_abs fun M hM => ?_
    have mb := mod_in (ns.getD 17 0) (ys.length : Int) (by lia)
    obtain ⟨j, ej⟩ := Int.eq_ofNat_of_zero_le mb.1
    have jl : j < ys.length := by lia
    obtain ⟨t, et, tr, etr, htr⟩ := Paired.at hy (List.getElem?_eq_getElem jl)
    have TR := tree_of ok (List.mem_of_getElem? et)
    have tl : t.length <= 8 := by
      have := nd_len (by lia) (TR.up.imp fun h => by lia) TR.ks
      lia
    refine ⟨_, rfl, _, rfl, a, ns, 17, rfl, s3.seq hq, _, rfl, g, ys, rfl, .inl (SqL.of hg), _, _, rfl, rfl, (by show (0 : Int) < (ys.length : Int); lia), g, _, _, .ref tr, rfl, rfl, SqL.of hg, ?_, ?_⟩
    · show atI ys (ns.getD 17 0 % (ys.length : Int)) = _
      rw [ej, <- etr]
      exact atI_nat (List.getElem?_eq_getElem jl)
    show M [some (.ref a), some (.ref c), some (.ref ol), some (.ref g), some (.ref tr), none, none, none, none] H3
    refine hM _ _ ?_
    clear hM M ej mb y0 hy yl et etr
    refine seq_abs fun M hM => ?_
    refine ⟨4, rfl, by lia, by lia, comp_range (lo := 0) (n := 4) (fun σ => ∃ u, σ = [u, some (.ref ol), some (.ref tr), some (.ref c)]) (fun i ys H' => Same H3 H' /\ Asks H' ys i n ps t ord) ⟨_, rfl⟩ ⟨Same.refl _, rfl, fun i y e => by simp at e⟩ (Nat.lt_of_le_of_lt (show 4 <= 20 by lia) (by decide)) ?_ ?_⟩
    · rintro i ys σ H4 N hi ⟨u, rfl⟩ ⟨s4, as⟩ hN
      dsimp only [gName, List.set]
      refine yesT ⟨_, rfl, _, rfl, _, rfl, _, rfl, ol, _, rfl, .inl (SqL.of (s4 _ _ ho)), fun l hl => ?_⟩
      have s5 := Same.new (o := HO.lst (ord.map V.int)) hl
      refine ⟨.l, .ref c, .ref l, tr, i, n, ps, t, ord, by (first | (rw [Int.zero_add]; rfl) | rw [Int.zero_add]), by lia, W.same (s4.trans s5), ok, h6, SqT.of ((s4.trans s5) _ _ htr), TR.ks, tl, .inr ⟨l, rfl, upd_same, pm⟩, fun v H6 s6 av => ?_⟩
      exact hN _ _ _ ⟨_, rfl⟩ ⟨s4.trans (s5.trans s6), (as.same (s5.trans s6)).snoc av⟩ (by simp)
    rintro ys4 H4 ⟨s4, as4⟩ ah hah
    have s5 := Same.new (o := HO.lst ys4) hah
    have h5 : (upd H4 ah (.lst ys4)) ah = some (.lst ys4) := upd_same
    replace as4 := as4.same s5
    replace s5 := s4.trans s5
    generalize upd H4 ah (.lst ys4) = H5 at s5 h5 as4 ⊢
    show M [some (.ref a), some (.ref c), some (.ref ol), some (.ref g), some (.ref tr), some (.ref ah), none, none, none] H5
    refine hM _ _ ?_
    clear hM M s4
    replace W := W.same s5
    replace ho := s5 _ _ ho
    replace htr := s5 _ _ htr
    replace s5 := s3.trans s5
    obtain ⟨ms, em, ml⟩ := cut_any ns (some 17) (some 25)
    refine seq_abs fun M hM => ?_
    refine ⟨_, rfl, _, rfl, _, rfl, a, _, rfl, s5.seq hq, fun p1 hp1 => ?_⟩
    rw [em]
    have s6 := Same.new (o := HO.lst (ms.map V.int)) hp1
    have h6' : (upd H5 p1 (.lst (ms.map V.int))) p1 = some (.lst (ms.map V.int)) := upd_same
    generalize upd H5 p1 (.lst (ms.map V.int)) = H6 at s6 h6' ⊢
    refine ⟨by show 1 <= sizeLine; decide, fun p2 hp2 => ?_⟩
    have s7 := Same.new (o := HO.lst [.int 0]) hp2
    have h7 : (upd H6 p2 (.lst [.int 0])) p2 = some (.lst [.int 0]) := upd_same
    replace h6' := s7 _ _ h6'
    replace s7 := s6.trans s7
    generalize upd H6 p2 (.lst [.int 0]) = H7 at s7 h6' h7 ⊢
    refine ⟨p1, p2, _, _, rfl, rfl, h6', h7, by rw [List.length_map]; exact Nat.le_trans (show ms.length + 1 <= 100 by lia) (by decide), fun p3 hp3 => ?_⟩
    have e8 : ms.map V.int ++ [V.int 0] = (ms ++ [0]).map V.int := by rw [List.map_append]; rfl
    rw [e8]
    have s8 := Same.new (o := HO.lst ((ms ++ [0]).map V.int)) hp3
    have h8 : (upd H7 p3 (.lst ((ms ++ [0]).map V.int))) p3 = some (.lst ((ms ++ [0]).map V.int)) := upd_same
    replace s8 := s7.trans s8
    generalize upd H7 p3 (.lst ((ms ++ [0]).map V.int)) = H8 at s8 h8 ⊢
    have okb : ∀ cell : Int, IsBad ps.length (badT ord cell) := fun cell => by
      have := bad_is (ord := ord) (cell := cell) (by rw [oll]; exact pm) (by lia)
      rw [oll] at this
      exact this
    refine ⟨p3, rfl, ⟨_, SqL.of h8⟩, for_seq (k := .l) (K := K) (a := p3) (xs := (ms ++ [0]).map V.int) (fun j σ H' => (∃ u v x, σ = [some (.ref a), some (.ref c), some (.ref ol), some (.ref g), some (.ref tr), some (.ref ah), u, v, x]) /\ Same H8 H') ⟨⟨_, _, _, rfl⟩, Same.refl _⟩ (fun j σ H' _ z => SqL.of (z.2 _ _ h8)) ?_ ?_⟩
    · rintro j y σ H9 hy ⟨⟨u, v, x, rfl⟩, s9⟩
      obtain ⟨cell, _, rfl⟩ := get_int' hy
      dsimp only [gName, List.set]
      refine ⟨4, rfl, by lia, by lia, ?_⟩
      refine for_range (lo := 0) (n := 4) (fun i σ H' => (∃ v x, σ = [some (.ref a), some (.ref c), some (.ref ol), some (.ref g), some (.ref tr), some (.ref ah), some (.int cell), v, x]) /\ Same H9 H') ⟨⟨_, _, rfl⟩, Same.refl _⟩ ?_ ?_
      · rintro i σ H10 hi ⟨⟨v, x, rfl⟩, s10⟩
        dsimp only [gName, List.set]
        have so := s8.trans (s9.trans s10)
        refine ⟨_, rfl, _, rfl, ol, ord, cell, rfl, so _ _ ho, by lia, by rw [oll]; exact pm, fun th H11 s11 hth => ?_⟩
        dsimp only [List.set]
        refine ⟨_, rfl, _, rfl, _, rfl, _, rfl, .ref c, th, .ref tr, i, n, ps, by (first | (rw [Int.zero_add]; rfl) | rw [Int.zero_add]), by lia, W.same (so.trans s11), ok.2.2, bad_of hth (okb cell), fun H12 s12 => ⟨_, rfl, iteF ?_⟩⟩
        refine ⟨_, rfl, _, rfl, _, rfl, ol, ord, cell, rfl, (so.trans (s11.trans s12)) _ _ ho, by lia, by rw [oll]; exact pm, fun th2 H13 s13 hth2 => ?_⟩
        obtain ⟨m, m64, sm⟩ := hold_same1 (K := K) (hth.same (s12.trans s13)) hth2
        exact ⟨m, m64, sm, _, rfl, iteF ⟨⟨_, _, rfl⟩, s10.trans (s11.trans (s12.trans s13))⟩⟩
      · rintro σ H10 ⟨⟨v, x, rfl⟩, s10⟩
        exact ⟨⟨_, _, _, rfl⟩, s9.trans s10⟩
    rintro σ H9 ⟨⟨u, v, x, rfl⟩, s9⟩
    refine hM _ _ ?_
    clear hM M
    have so := s8.trans s9
    refine ⟨4, rfl, by lia, by lia, comp_range (lo := 0) (n := 4) (fun σ => ∃ u, σ = [u, some (.ref ol), some (.ref tr), some (.ref c)]) (fun i ys H' => Same H9 H' /\ Asks H' ys i n ps t ord) ⟨_, rfl⟩ ⟨Same.refl _, rfl, fun i y e => by simp at e⟩ (Nat.lt_of_le_of_lt (show 4 <= 20 by lia) (by decide)) ?_ ?_⟩
    · rintro i ys σ H10 N hi ⟨u, rfl⟩ ⟨s10, as⟩ hN
      dsimp only [gName, List.set]
      refine yesT ⟨_, rfl, _, rfl, _, rfl, _, rfl, ol, _, rfl, .inl ⟨SqL.of ((so.trans s10) _ _ ho), fun l o oc od hl => ?_⟩⟩
      have s11 := Same.new (o := HO.frz o (HO.tup (ord.map V.int))) hl
      refine ⟨.t, .ref c, .ref l, tr, i, n, ps, t, ord, by (first | (rw [Int.zero_add]; rfl) | rw [Int.zero_add]), by lia, W.same (so.trans (s10.trans s11)), ok, h6, SqT.of ((so.trans (s10.trans s11)) _ _ htr), TR.ks, tl, .inr ⟨l, rfl, FzT.new oc od, pm⟩, fun v H12 s12 av => ?_⟩
      exact hN _ _ _ ⟨_, rfl⟩ ⟨s10.trans (s11.trans s12), (as.same (s11.trans s12)).snoc av⟩ (by simp)
    rintro ys5 H10 ⟨s10, as5⟩ ah2 hah2
    have s11 := Same.new (o := HO.lst ys5) hah2
    have h11 : (upd H10 ah2 (.lst ys5)) ah2 = some (.lst ys5) := upd_same
    replace as5 := as5.same s11
    replace s11 := so.trans (s10.trans s11)
    generalize upd H10 ah2 (.lst ys5) = H11 at s11 h11 as5 ⊢
    refine ⟨_, rfl, ah2, ah, ys5, ys4, 2, rfl, rfl, .inr ⟨SqL.of h11, SqL.of (s11 _ _ h5)⟩, by rw [as5.1, as4.1], by decide, fun i x y e1 e2 => ask_same (as5.2 i x e1) ((as4.same s11).2 i y e2), q _⟩
end
def mroT (K : W.Frag) (C : Addr) : List Value := match K.lookup C with | some o => (match o.data with | .cls cd => cd.mro.tail | _ => []) | none => []
def n58 (a b c d e f g h : Addr) : Fin 8 -> Addr := fun i => match i with | 0 => a | 1 => b | 2 => c | 3 => d | 4 => e | 5 => f | 6 => g | 7 => h
def o58 (a b c d e f : Addr) : Fin 6 -> Addr := fun i => match i with | 0 => a | 1 => b | 2 => c | 3 => d | 4 => e | 5 => f
def chk58b (K : W.Frag) (C0 CW : Addr) : Bool := excB K C0 (mroT K C0) && excB K CW (mroT K CW)
theorem chk58b_of {K : W.Frag} {C0 CW : Addr} (h : chk58b K C0 CW = true) : excB K C0 (mroT K C0) = true /\ excB K CW (mroT K CW) = true := by
  unfold chk58b at h
  simp only [Bool.and_eq_true] at h
  exact h
def chk58 (K : W.Frag) (c : Addr) (n : Fin 8 -> Addr) (o : Fin 6 -> Addr) (Wc : Addr) : Bool := decide (excKB K c = true /\ PySem.W.subIn K (.ref c) (.ref Wc) = some true /\ PySem.W.kitOne K (.ref c) (.type "ValueError") = some true /\ PySem.W.kitOne K (.ref c) (.ref c) = some true /\ PySem.W.kitAny K (.ref c) [.ref (n 0), .ref (n 1), .ref (n 2), .ref (n 3), .ref (n 4), .ref (n 5), .ref (n 6), .ref (n 7)] = some false /\ PySem.W.kitAny K (.ref c) [.ref (o 0), .ref (o 1), .ref (o 2), .ref (o 3), .ref (o 4), .ref (o 5)] = some false)
theorem src_mk {K : W.Frag} {h : Heap} {mg : Str -> Option Value} {x : Str} {st : Stmt} {f : Addr} {ps : List Str} {oc : Value} {od an : Option Addr} {osl : Array (Option Value)} {kV doc pm cdv ct : Value} (X : K.In h) (G : h.Ns mainGlobals mg)
    (a : PySem.W.nsIn K mainGlobals x = some (some (.ref f))) (l : K.lookup f = some ⟨oc, od, .func (PySem.W.fnOf x x (defArgs st) (defBody st) (defScope st) .none kV doc pm an cdv ct), osl⟩) (c : PySem.W.codeIn K cdv x = true) (k : PySem.W.keepIn K (.ref f) = true)
    (hb : ∀ (kV doc pm : Value) (an : Option Addr) (cdv ct : Value) (us : List Value), us.length = ps.length -> bindArgs (PySem.W.fnOf x x (defArgs st) (defBody st) (defScope st) .none kV doc pm an cdv ct) ⟨us, []⟩ = pure (ps.zip us)) : Src K mg x st ps :=
  ⟨_, _, fun_mk (st := st) l c k, (fun_mk (st := st) l c k).binds hb, PySem.W.mg_of X G a⟩
theorem lenC {p : List Value -> Prop} {n : Nat} (h : ∀ (a : Value) (us : List Value), us.length = n -> p (a :: us)) : ∀ us : List Value, us.length = n + 1 -> p us := fun us hl => by
  cases us with
  | nil => cases hl
  | cons a us => exact h a us (Nat.succ.inj hl)
theorem len0 {p : List Value -> Prop} (h : p []) : ∀ us : List Value, us.length = 0 -> p us := fun us hl => by
  rw [List.length_eq_zero_iff.mp hl]
  exact h
theorem len1 {p : List Value -> Prop} (h : ∀ a, p [a]) : ∀ us : List Value, us.length = 1 -> p us := lenC fun a => len0 (p := fun us => p (a :: us)) (h a)
theorem len2 {p : List Value -> Prop} (h : ∀ a b, p [a, b]) : ∀ us : List Value, us.length = 2 -> p us := lenC fun a => len1 (p := fun us => p (a :: us)) (h a)
theorem len3 {p : List Value -> Prop} (h : ∀ a b c, p [a, b, c]) : ∀ us : List Value, us.length = 3 -> p us := lenC fun a => len2 (p := fun us => p (a :: us)) (h a)
theorem len4 {p : List Value -> Prop} (h : ∀ a b c d, p [a, b, c, d]) : ∀ us : List Value, us.length = 4 -> p us := lenC fun a => len3 (p := fun us => p (a :: us)) (h a)
theorem lenS1 {p : List Value -> Prop} (h : ∀ a, p [a]) : ∀ us : List Value, us.length + 1 = 2 -> p us := fun us hl => len1 h us (Nat.succ.inj hl)
theorem lenS2 {p : List Value -> Prop} (h : ∀ a b, p [a, b]) : ∀ us : List Value, us.length + 1 = 3 -> p us := fun us hl => len2 h us (Nat.succ.inj hl)
theorem srcD_mk {K : W.Frag} {h : Heap} {mg : Str -> Option Value} {x : Str} {st : Stmt} {f T : Addr} {ps : List Str} {oc tc : Value} {od an td : Option Addr} {osl ts : Array (Option Value)} {kV doc pm cdv ct : Value} {tn : Nat} (X : K.In h) (G : h.Ns mainGlobals mg)
    (a : PySem.W.nsIn K mainGlobals x = some (some (.ref f))) (l : K.lookup f = some ⟨oc, od, .func (PySem.W.fnOf x x (defArgs st) (defBody st) (defScope st) (.ref T) kV doc pm an cdv ct), osl⟩) (c : PySem.W.codeIn K cdv x = true) (k : PySem.W.keepIn K (.ref f) = true) (t : K.lookup T = some ⟨tc, td, .seq #[.none] tn, ts⟩)
    (b0 : ∀ us : List Value, us.length = ps.length -> ∃ k : Option (Array Value) -> Sem (List (Str × Value)), bindArgs (PySem.W.fnOf x x (defArgs st) (defBody st) (defScope st) (.ref T) kV doc pm an cdv ct) ⟨us, []⟩ = seqItems? (.ref T) >>= k /\ k (some #[.none]) = pure (ps.zip us))
    (b1 : ∀ us : List Value, us.length + 1 = ps.length -> ∃ k : Option (Array Value) -> Sem (List (Str × Value)), bindArgs (PySem.W.fnOf x x (defArgs st) (defBody st) (defScope st) (.ref T) kV doc pm an cdv ct) ⟨us, []⟩ = seqItems? (.ref T) >>= k /\ k (some #[.none]) = pure (ps.zip (us ++ [.none]))) : SrcD K mg x st ps :=
  ⟨f, T, oc, od, kV, doc, pm, an, cdv, ct, osl, _, tn, l, c, k, PySem.W.mg_of X G a, t, rfl, b0, b1⟩
theorem all_mk {l : PySem.W.OpenLaw} {w : World} {K : W.Frag} {h : Heap} {mg : Str -> Option Value} {fa : Addr} (X : K.In h) (G : h.Ns mainGlobals mg) (hfa : mg "law" = some (.ref fa))
    {f0 : Addr} {od0 an0 : Option Addr} {sl0 : Array (Option Value)} {oc0 kV0 dc0 pm0 cd0 ct0 : Value}
    (a0 : PySem.W.nsIn K mainGlobals "is_whole" = some (some (.ref f0))) (l0 : K.lookup f0 = some ⟨oc0, od0, .func (PySem.W.fnOf "is_whole" "is_whole" (defArgs sIsWhole) (defBody sIsWhole) (defScope sIsWhole) .none kV0 dc0 pm0 an0 cd0 ct0), sl0⟩) (c0 : PySem.W.codeIn K cd0 "is_whole" = true) (k0 : PySem.W.keepIn K (.ref f0) = true)
    {f1 : Addr} {od1 an1 : Option Addr} {sl1 : Array (Option Value)} {oc1 kV1 dc1 pm1 cd1 ct1 : Value}
    (a1 : PySem.W.nsIn K mainGlobals "is_each_once" = some (some (.ref f1))) (l1 : K.lookup f1 = some ⟨oc1, od1, .func (PySem.W.fnOf "is_each_once" "is_each_once" (defArgs sOnce) (defBody sOnce) (defScope sOnce) .none kV1 dc1 pm1 an1 cd1 ct1), sl1⟩) (c1 : PySem.W.codeIn K cd1 "is_each_once" = true) (k1 : PySem.W.keepIn K (.ref f1) = true)
    {f2 : Addr} {od2 an2 : Option Addr} {sl2 : Array (Option Value)} {oc2 kV2 dc2 pm2 cd2 ct2 : Value}
    (a2 : PySem.W.nsIn K mainGlobals "told_order" = some (some (.ref f2))) (l2 : K.lookup f2 = some ⟨oc2, od2, .func (PySem.W.fnOf "told_order" "told_order" (defArgs sTold) (defBody sTold) (defScope sTold) .none kV2 dc2 pm2 an2 cd2 ct2), sl2⟩) (c2 : PySem.W.codeIn K cd2 "told_order" = true) (k2 : PySem.W.keepIn K (.ref f2) = true)
    {f3 : Addr} {od3 an3 : Option Addr} {sl3 : Array (Option Value)} {oc3 kV3 dc3 pm3 cd3 ct3 : Value}
    (a3 : PySem.W.nsIn K mainGlobals "whole_pick" = some (some (.ref f3))) (l3 : K.lookup f3 = some ⟨oc3, od3, .func (PySem.W.fnOf "whole_pick" "whole_pick" (defArgs sWhole) (defBody sWhole) (defScope sWhole) .none kV3 dc3 pm3 an3 cd3 ct3), sl3⟩) (c3 : PySem.W.codeIn K cd3 "whole_pick" = true) (k3 : PySem.W.keepIn K (.ref f3) = true)
    {f4 : Addr} {od4 an4 : Option Addr} {sl4 : Array (Option Value)} {oc4 kV4 dc4 pm4 cd4 ct4 : Value}
    (a4 : PySem.W.nsIn K mainGlobals "all_picks" = some (some (.ref f4))) (l4 : K.lookup f4 = some ⟨oc4, od4, .func (PySem.W.fnOf "all_picks" "all_picks" (defArgs sAll) (defBody sAll) (defScope sAll) .none kV4 dc4 pm4 an4 cd4 ct4), sl4⟩) (c4 : PySem.W.codeIn K cd4 "all_picks" = true) (k4 : PySem.W.keepIn K (.ref f4) = true)
    {f5 : Addr} {od5 an5 : Option Addr} {sl5 : Array (Option Value)} {oc5 kV5 dc5 pm5 cd5 ct5 : Value}
    (a5 : PySem.W.nsIn K mainGlobals "with_one_more" = some (some (.ref f5))) (l5 : K.lookup f5 = some ⟨oc5, od5, .func (PySem.W.fnOf "with_one_more" "with_one_more" (defArgs sMore) (defBody sMore) (defScope sMore) .none kV5 dc5 pm5 an5 cd5 ct5), sl5⟩) (c5 : PySem.W.codeIn K cd5 "with_one_more" = true) (k5 : PySem.W.keepIn K (.ref f5) = true)
    {f6 : Addr} {od6 an6 : Option Addr} {sl6 : Array (Option Value)} {oc6 kV6 dc6 pm6 cd6 ct6 : Value}
    (a6 : PySem.W.nsIn K mainGlobals "heads_of" = some (some (.ref f6))) (l6 : K.lookup f6 = some ⟨oc6, od6, .func (PySem.W.fnOf "heads_of" "heads_of" (defArgs sHeads) (defBody sHeads) (defScope sHeads) .none kV6 dc6 pm6 an6 cd6 ct6), sl6⟩) (c6 : PySem.W.codeIn K cd6 "heads_of" = true) (k6 : PySem.W.keepIn K (.ref f6) = true)
    {f7 : Addr} {od7 an7 : Option Addr} {sl7 : Array (Option Value)} {oc7 kV7 dc7 pm7 cd7 ct7 : Value}
    (a7 : PySem.W.nsIn K mainGlobals "rank_of" = some (some (.ref f7))) (l7 : K.lookup f7 = some ⟨oc7, od7, .func (PySem.W.fnOf "rank_of" "rank_of" (defArgs sRank) (defBody sRank) (defScope sRank) .none kV7 dc7 pm7 an7 cd7 ct7), sl7⟩) (c7 : PySem.W.codeIn K cd7 "rank_of" = true) (k7 : PySem.W.keepIn K (.ref f7) = true)
    {f8 : Addr} {od8 an8 : Option Addr} {sl8 : Array (Option Value)} {oc8 kV8 dc8 pm8 cd8 ct8 : Value}
    (a8 : PySem.W.nsIn K mainGlobals "rank_of_web" = some (some (.ref f8))) (l8 : K.lookup f8 = some ⟨oc8, od8, .func (PySem.W.fnOf "rank_of_web" "rank_of_web" (defArgs sRankW) (defBody sRankW) (defScope sRankW) .none kV8 dc8 pm8 an8 cd8 ct8), sl8⟩) (c8 : PySem.W.codeIn K cd8 "rank_of_web" = true) (k8 : PySem.W.keepIn K (.ref f8) = true)
    {f9 : Addr} {od9 an9 : Option Addr} {sl9 : Array (Option Value)} {oc9 kV9 dc9 pm9 cd9 ct9 : Value}
    (a9 : PySem.W.nsIn K mainGlobals "gathered" = some (some (.ref f9))) (l9 : K.lookup f9 = some ⟨oc9, od9, .func (PySem.W.fnOf "gathered" "gathered" (defArgs sGath) (defBody sGath) (defScope sGath) .none kV9 dc9 pm9 an9 cd9 ct9), sl9⟩) (c9 : PySem.W.codeIn K cd9 "gathered" = true) (k9 : PySem.W.keepIn K (.ref f9) = true)
    {f10 : Addr} {od10 an10 : Option Addr} {sl10 : Array (Option Value)} {oc10 kV10 dc10 pm10 cd10 ct10 : Value}
    (a10 : PySem.W.nsIn K mainGlobals "picks_with" = some (some (.ref f10))) (l10 : K.lookup f10 = some ⟨oc10, od10, .func (PySem.W.fnOf "picks_with" "picks_with" (defArgs sPW) (defBody sPW) (defScope sPW) .none kV10 dc10 pm10 an10 cd10 ct10), sl10⟩) (c10 : PySem.W.codeIn K cd10 "picks_with" = true) (k10 : PySem.W.keepIn K (.ref f10) = true)
    {f11 : Addr} {od11 an11 : Option Addr} {sl11 : Array (Option Value)} {oc11 kV11 dc11 pm11 cd11 ct11 : Value}
    (a11 : PySem.W.nsIn K mainGlobals "all_trees" = some (some (.ref f11))) (l11 : K.lookup f11 = some ⟨oc11, od11, .func (PySem.W.fnOf "all_trees" "all_trees" (defArgs sAT) (defBody sAT) (defScope sAT) .none kV11 dc11 pm11 an11 cd11 ct11), sl11⟩) (c11 : PySem.W.codeIn K cd11 "all_trees" = true) (k11 : PySem.W.keepIn K (.ref f11) = true)
    {f12 : Addr} {od12 an12 : Option Addr} {sl12 : Array (Option Value)} {oc12 kV12 dc12 pm12 cd12 ct12 : Value} {T12 : Addr} {tc12 : Value} {td12 : Option Addr} {ts12 : Array (Option Value)} {tn12 : Nat}
    (a12 : PySem.W.nsIn K mainGlobals "inner_ties" = some (some (.ref f12))) (l12 : K.lookup f12 = some ⟨oc12, od12, .func (PySem.W.fnOf "inner_ties" "inner_ties" (defArgs sInner) (defBody sInner) (defScope sInner) (.ref T12) kV12 dc12 pm12 an12 cd12 ct12), sl12⟩) (c12 : PySem.W.codeIn K cd12 "inner_ties" = true) (k12 : PySem.W.keepIn K (.ref f12) = true) (t12 : K.lookup T12 = some ⟨tc12, td12, .seq #[.none] tn12, ts12⟩)
    {f13 : Addr} {od13 an13 : Option Addr} {sl13 : Array (Option Value)} {oc13 kV13 dc13 pm13 cd13 ct13 : Value} {T13 : Addr} {tc13 : Value} {td13 : Option Addr} {ts13 : Array (Option Value)} {tn13 : Nat}
    (a13 : PySem.W.nsIn K mainGlobals "outer_ties" = some (some (.ref f13))) (l13 : K.lookup f13 = some ⟨oc13, od13, .func (PySem.W.fnOf "outer_ties" "outer_ties" (defArgs sOuter) (defBody sOuter) (defScope sOuter) (.ref T13) kV13 dc13 pm13 an13 cd13 ct13), sl13⟩) (c13 : PySem.W.codeIn K cd13 "outer_ties" = true) (k13 : PySem.W.keepIn K (.ref f13) = true) (t13 : K.lookup T13 = some ⟨tc13, td13, .seq #[.none] tn13, ts13⟩)
    {f14 : Addr} {od14 an14 : Option Addr} {sl14 : Array (Option Value)} {oc14 kV14 dc14 pm14 cd14 ct14 : Value}
    (a14 : PySem.W.nsIn K mainGlobals "swaps_of" = some (some (.ref f14))) (l14 : K.lookup f14 = some ⟨oc14, od14, .func (PySem.W.fnOf "swaps_of" "swaps_of" (defArgs sSwaps) (defBody sSwaps) (defScope sSwaps) .none kV14 dc14 pm14 an14 cd14 ct14), sl14⟩) (c14 : PySem.W.codeIn K cd14 "swaps_of" = true) (k14 : PySem.W.keepIn K (.ref f14) = true)
    {f15 : Addr} {od15 an15 : Option Addr} {sl15 : Array (Option Value)} {oc15 kV15 dc15 pm15 cd15 ct15 : Value}
    (a15 : PySem.W.nsIn K mainGlobals "leads_across" = some (some (.ref f15))) (l15 : K.lookup f15 = some ⟨oc15, od15, .func (PySem.W.fnOf "leads_across" "leads_across" (defArgs sAcross) (defBody sAcross) (defScope sAcross) .none kV15 dc15 pm15 an15 cd15 ct15), sl15⟩) (c15 : PySem.W.codeIn K cd15 "leads_across" = true) (k15 : PySem.W.keepIn K (.ref f15) = true)
    {f16 : Addr} {od16 an16 : Option Addr} {sl16 : Array (Option Value)} {oc16 kV16 dc16 pm16 cd16 ct16 : Value}
    (a16 : PySem.W.nsIn K mainGlobals "is_inner" = some (some (.ref f16))) (l16 : K.lookup f16 = some ⟨oc16, od16, .func (PySem.W.fnOf "is_inner" "is_inner" (defArgs sIsIn) (defBody sIsIn) (defScope sIsIn) .none kV16 dc16 pm16 an16 cd16 ct16), sl16⟩) (c16 : PySem.W.codeIn K cd16 "is_inner" = true) (k16 : PySem.W.keepIn K (.ref f16) = true)
    {f17 : Addr} {od17 an17 : Option Addr} {sl17 : Array (Option Value)} {oc17 kV17 dc17 pm17 cd17 ct17 : Value}
    (a17 : PySem.W.nsIn K mainGlobals "is_outer" = some (some (.ref f17))) (l17 : K.lookup f17 = some ⟨oc17, od17, .func (PySem.W.fnOf "is_outer" "is_outer" (defArgs sIsOut) (defBody sIsOut) (defScope sIsOut) .none kV17 dc17 pm17 an17 cd17 ct17), sl17⟩) (c17 : PySem.W.codeIn K cd17 "is_outer" = true) (k17 : PySem.W.keepIn K (.ref f17) = true)
    {f18 : Addr} {od18 an18 : Option Addr} {sl18 : Array (Option Value)} {oc18 kV18 dc18 pm18 cd18 ct18 : Value}
    (a18 : PySem.W.nsIn K mainGlobals "is_first" = some (some (.ref f18))) (l18 : K.lookup f18 = some ⟨oc18, od18, .func (PySem.W.fnOf "is_first" "is_first" (defArgs sFirst) (defBody sFirst) (defScope sFirst) .none kV18 dc18 pm18 an18 cd18 ct18), sl18⟩) (c18 : PySem.W.codeIn K cd18 "is_first" = true) (k18 : PySem.W.keepIn K (.ref f18) = true)
    {f19 : Addr} {od19 an19 : Option Addr} {sl19 : Array (Option Value)} {oc19 kV19 dc19 pm19 cd19 ct19 : Value} {T19 : Addr} {tc19 : Value} {td19 : Option Addr} {ts19 : Array (Option Value)} {tn19 : Nat}
    (a19 : PySem.W.nsIn K mainGlobals "tree_of" = some (some (.ref f19))) (l19 : K.lookup f19 = some ⟨oc19, od19, .func (PySem.W.fnOf "tree_of" "tree_of" (defArgs sTreeOf) (defBody sTreeOf) (defScope sTreeOf) (.ref T19) kV19 dc19 pm19 an19 cd19 ct19), sl19⟩) (c19 : PySem.W.codeIn K cd19 "tree_of" = true) (k19 : PySem.W.keepIn K (.ref f19) = true) (t19 : K.lookup T19 = some ⟨tc19, td19, .seq #[.none] tn19, ts19⟩)
    {f20 : Addr} {od20 an20 : Option Addr} {sl20 : Array (Option Value)} {oc20 kV20 dc20 pm20 cd20 ct20 : Value}
    (a20 : PySem.W.nsIn K mainGlobals "is_needed" = some (some (.ref f20))) (l20 : K.lookup f20 = some ⟨oc20, od20, .func (PySem.W.fnOf "is_needed" "is_needed" (defArgs sNeeded) (defBody sNeeded) (defScope sNeeded) .none kV20 dc20 pm20 an20 cd20 ct20), sl20⟩) (c20 : PySem.W.codeIn K cd20 "is_needed" = true) (k20 : PySem.W.keepIn K (.ref f20) = true)
    {f21 : Addr} {od21 an21 : Option Addr} {sl21 : Array (Option Value)} {oc21 kV21 dc21 pm21 cd21 ct21 : Value} {T21 : Addr} {tc21 : Value} {td21 : Option Addr} {ts21 : Array (Option Value)} {tn21 : Nat}
    (a21 : PySem.W.nsIn K mainGlobals "by_trees" = some (some (.ref f21))) (l21 : K.lookup f21 = some ⟨oc21, od21, .func (PySem.W.fnOf "by_trees" "by_trees" (defArgs sByT) (defBody sByT) (defScope sByT) (.ref T21) kV21 dc21 pm21 an21 cd21 ct21), sl21⟩) (c21 : PySem.W.codeIn K cd21 "by_trees" = true) (k21 : PySem.W.keepIn K (.ref f21) = true) (t21 : K.lookup T21 = some ⟨tc21, td21, .seq #[.none] tn21, ts21⟩)
    {f22 : Addr} {od22 an22 : Option Addr} {sl22 : Array (Option Value)} {oc22 kV22 dc22 pm22 cd22 ct22 : Value}
    (a22 : PySem.W.nsIn K mainGlobals "_law_at" = some (some (.ref f22))) (l22 : K.lookup f22 = some ⟨oc22, od22, .func (PySem.W.fnOf "_law_at" "_law_at" (defArgs sAt) (defBody sAt) (defScope sAt) .none kV22 dc22 pm22 an22 cd22 ct22), sl22⟩) (c22 : PySem.W.codeIn K cd22 "_law_at" = true) (k22 : PySem.W.keepIn K (.ref f22) = true)
    {f23 : Addr} {od23 an23 : Option Addr} {sl23 : Array (Option Value)} {oc23 kV23 dc23 pm23 cd23 ct23 : Value}
    (a23 : PySem.W.nsIn K mainGlobals "_law_web" = some (some (.ref f23))) (l23 : K.lookup f23 = some ⟨oc23, od23, .func (PySem.W.fnOf "_law_web" "_law_web" (defArgs sWeb) (defBody sWeb) (defScope sWeb) .none kV23 dc23 pm23 an23 cd23 ct23), sl23⟩) (c23 : PySem.W.codeIn K cd23 "_law_web" = true) (k23 : PySem.W.keepIn K (.ref f23) = true)
    {f24 : Addr} {od24 an24 : Option Addr} {sl24 : Array (Option Value)} {oc24 kV24 dc24 pm24 cd24 ct24 : Value}
    (a24 : PySem.W.nsIn K mainGlobals "_law_order" = some (some (.ref f24))) (l24 : K.lookup f24 = some ⟨oc24, od24, .func (PySem.W.fnOf "_law_order" "_law_order" (defArgs sOrder) (defBody sOrder) (defScope sOrder) .none kV24 dc24 pm24 an24 cd24 ct24), sl24⟩) (c24 : PySem.W.codeIn K cd24 "_law_order" = true) (k24 : PySem.W.keepIn K (.ref f24) = true)
    {f25 : Addr} {od25 an25 : Option Addr} {sl25 : Array (Option Value)} {oc25 kV25 dc25 pm25 cd25 ct25 : Value}
    (a25 : PySem.W.nsIn K mainGlobals "_law_bad" = some (some (.ref f25))) (l25 : K.lookup f25 = some ⟨oc25, od25, .func (PySem.W.fnOf "_law_bad" "_law_bad" (defArgs sBad) (defBody sBad) (defScope sBad) .none kV25 dc25 pm25 an25 cd25 ct25), sl25⟩) (c25 : PySem.W.codeIn K cd25 "_law_bad" = true) (k25 : PySem.W.keepIn K (.ref f25) = true)
    {f26 : Addr} {od26 an26 : Option Addr} {sl26 : Array (Option Value)} {oc26 kV26 dc26 pm26 cd26 ct26 : Value}
    (a26 : PySem.W.nsIn K mainGlobals "_law_asked" = some (some (.ref f26))) (l26 : K.lookup f26 = some ⟨oc26, od26, .func (PySem.W.fnOf "_law_asked" "_law_asked" (defArgs sAsked) (defBody sAsked) (defScope sAsked) .none kV26 dc26 pm26 an26 cd26 ct26), sl26⟩) (c26 : PySem.W.codeIn K cd26 "_law_asked" = true) (k26 : PySem.W.keepIn K (.ref f26) = true)
    {f27 : Addr} {od27 an27 : Option Addr} {sl27 : Array (Option Value)} {oc27 kV27 dc27 pm27 cd27 ct27 : Value}
    (a27 : PySem.W.nsIn K mainGlobals "_law_refused" = some (some (.ref f27))) (l27 : K.lookup f27 = some ⟨oc27, od27, .func (PySem.W.fnOf "_law_refused" "_law_refused" (defArgs sRefused) (defBody sRefused) (defScope sRefused) .none kV27 dc27 pm27 an27 cd27 ct27), sl27⟩) (c27 : PySem.W.codeIn K cd27 "_law_refused" = true) (k27 : PySem.W.keepIn K (.ref f27) = true)
    {f28 : Addr} {od28 an28 : Option Addr} {sl28 : Array (Option Value)} {oc28 kV28 dc28 pm28 cd28 ct28 : Value}
    (a28 : PySem.W.nsIn K mainGlobals "law" = some (some (.ref f28))) (l28 : K.lookup f28 = some ⟨oc28, od28, .func (PySem.W.fnOf "law" "law" (defArgs sLaw) (defBody sLaw) (defScope sLaw) .none kV28 dc28 pm28 an28 cd28 ct28), sl28⟩) (c28 : PySem.W.codeIn K cd28 "law" = true) (k28 : PySem.W.keepIn K (.ref f28) = true)
    (z0 : PySem.W.nsIn K mainGlobals "isinstance" = some none)
    (z1 : PySem.W.nsIn K mainGlobals "int" = some none)
    (z2 : PySem.W.nsIn K mainGlobals "bool" = some none)
    (z3 : PySem.W.nsIn K mainGlobals "len" = some none)
    (z4 : PySem.W.nsIn K mainGlobals "tuple" = some none)
    (z5 : PySem.W.nsIn K mainGlobals "all" = some none)
    (z6 : PySem.W.nsIn K mainGlobals "list" = some none)
    (z7 : PySem.W.nsIn K mainGlobals "min" = some none)
    (z8 : PySem.W.nsIn K mainGlobals "max" = some none)
    (z9 : PySem.W.nsIn K mainGlobals "range" = some none)
    (z10 : PySem.W.nsIn K mainGlobals "set" = some none)
    (z11 : PySem.W.nsIn K mainGlobals "sorted" = some none)
    (z12 : PySem.W.nsIn K mainGlobals "any" = some none)
    (z13 : PySem.W.nsIn K mainGlobals "str" = some none)
    (z14 : PySem.W.nsIn K mainGlobals "ValueError" = some none)
    {E0 : Addr} (qE0 : PySem.W.nsIn K mainGlobals "NoOrder" = some (some (.ref E0)))
    {N0 : Addr} (qN0 : PySem.W.nsIn K mainGlobals "NoDrawing" = some (some (.ref N0)))
    {N1 : Addr} (qN1 : PySem.W.nsIn K mainGlobals "NoNumber" = some (some (.ref N1)))
    {N2 : Addr} (qN2 : PySem.W.nsIn K mainGlobals "NoPlaces" = some (some (.ref N2)))
    {N3 : Addr} (qN3 : PySem.W.nsIn K mainGlobals "NoPoint" = some (some (.ref N3)))
    {N4 : Addr} (qN4 : PySem.W.nsIn K mainGlobals "NoSuch" = some (some (.ref N4)))
    {N5 : Addr} (qN5 : PySem.W.nsIn K mainGlobals "NoText" = some (some (.ref N5)))
    {N6 : Addr} (qN6 : PySem.W.nsIn K mainGlobals "NoTie" = some (some (.ref N6)))
    {N7 : Addr} (qN7 : PySem.W.nsIn K mainGlobals "NotApart" = some (some (.ref N7)))
    {O0 : Addr} (qO0 : PySem.W.nsIn K mainGlobals "NoName" = some (some (.ref O0)))
    {O1 : Addr} (qO1 : PySem.W.nsIn K mainGlobals "NoRow" = some (some (.ref O1)))
    {O2 : Addr} (qO2 : PySem.W.nsIn K mainGlobals "NotJoined" = some (some (.ref O2)))
    {O3 : Addr} (qO3 : PySem.W.nsIn K mainGlobals "NotPlane" = some (some (.ref O3)))
    {O4 : Addr} (qO4 : PySem.W.nsIn K mainGlobals "TooMany" = some (some (.ref O4)))
    {O5 : Addr} (qO5 : PySem.W.nsIn K mainGlobals "NoWeb" = some (some (.ref O5)))
    {CW : Addr} (qw : PySem.W.nsIn K mainGlobals "WebError" = some (some (.ref CW)))
    (x1 : chk58b K E0 CW = true)
    (x2 : chk58 K E0 (n58 N0 N1 N2 N3 N4 N5 N6 N7) (o58 O0 O1 O2 O3 O4 O5) CW = true)
    : ∃ fd : FuncData, (∀ (s : Shared) (v : Value), BindsTo s fd ⟨[v], []⟩ [("_law_script", v)]) /\ ∀ base : Heap, K.In base -> base.Ns mainGlobals mg -> FnOk l.prog w K mg base CX0 8 fa fd ["_law_script"] (spLaw K) := by
  have e := hfa.symm.trans (PySem.W.mg_of X G a28)
  cases e
  have S0 : Src K mg "is_whole" sIsWhole ["thing"] := src_mk X G a0 l0 c0 k0 fun _ _ _ _ _ _ => len1 (fun _ => rfl)
  have S1 : Src K mg "is_each_once" sOnce ["thing", "many"] := src_mk X G a1 l1 c1 k1 fun _ _ _ _ _ _ => len2 (fun _ _ => rfl)
  have S2 : Src K mg "told_order" sTold ["web", "order"] := src_mk X G a2 l2 c2 k2 fun _ _ _ _ _ _ => len2 (fun _ _ => rfl)
  have S3 : Src K mg "whole_pick" sWhole ["web"] := src_mk X G a3 l3 c3 k3 fun _ _ _ _ _ _ => len1 (fun _ => rfl)
  have S4 : Src K mg "all_picks" sAll ["web"] := src_mk X G a4 l4 c4 k4 fun _ _ _ _ _ _ => len1 (fun _ => rfl)
  have S5 : Src K mg "with_one_more" sMore ["picks", "many"] := src_mk X G a5 l5 c5 k5 fun _ _ _ _ _ _ => len2 (fun _ _ => rfl)
  have S6 : Src K mg "heads_of" sHeads ["web", "pick"] := src_mk X G a6 l6 c6 k6 fun _ _ _ _ _ _ => len2 (fun _ _ => rfl)
  have S7 : Src K mg "rank_of" sRank ["web", "pick"] := src_mk X G a7 l7 c7 k7 fun _ _ _ _ _ _ => len2 (fun _ _ => rfl)
  have S8 : Src K mg "rank_of_web" sRankW ["web"] := src_mk X G a8 l8 c8 k8 fun _ _ _ _ _ _ => len1 (fun _ => rfl)
  have S9 : Src K mg "gathered" sGath ["terms"] := src_mk X G a9 l9 c9 k9 fun _ _ _ _ _ _ => len1 (fun _ => rfl)
  have S10 : Src K mg "picks_with" sPW ["web", "size", "rank"] := src_mk X G a10 l10 c10 k10 fun _ _ _ _ _ _ => len3 (fun _ _ _ => rfl)
  have S11 : Src K mg "all_trees" sAT ["web"] := src_mk X G a11 l11 c11 k11 fun _ _ _ _ _ _ => len1 (fun _ => rfl)
  have S12 : SrcD K mg "inner_ties" sInner ["web", "tree", "order"] := srcD_mk X G a12 l12 c12 k12 t12 (len3 fun _ _ _ => ⟨_, rfl, rfl⟩) (lenS2 fun _ _ => ⟨_, rfl, rfl⟩)
  have S13 : SrcD K mg "outer_ties" sOuter ["web", "tree", "order"] := srcD_mk X G a13 l13 c13 k13 t13 (len3 fun _ _ _ => ⟨_, rfl, rfl⟩) (lenS2 fun _ _ => ⟨_, rfl, rfl⟩)
  have S14 : Src K mg "swaps_of" sSwaps ["web", "tree"] := src_mk X G a14 l14 c14 k14 fun _ _ _ _ _ _ => len2 (fun _ _ => rfl)
  have S15 : Src K mg "leads_across" sAcross ["web", "heads", "k"] := src_mk X G a15 l15 c15 k15 fun _ _ _ _ _ _ => len3 (fun _ _ _ => rfl)
  have S16 : Src K mg "is_inner" sIsIn ["order", "swaps", "k"] := src_mk X G a16 l16 c16 k16 fun _ _ _ _ _ _ => len3 (fun _ _ _ => rfl)
  have S17 : Src K mg "is_outer" sIsOut ["order", "swaps", "k"] := src_mk X G a17 l17 c17 k17 fun _ _ _ _ _ _ => len3 (fun _ _ _ => rfl)
  have S18 : Src K mg "is_first" sFirst ["order", "k", "ties"] := src_mk X G a18 l18 c18 k18 fun _ _ _ _ _ _ => len3 (fun _ _ _ => rfl)
  have S19 : SrcD K mg "tree_of" sTreeOf ["web", "pick", "order"] := srcD_mk X G a19 l19 c19 k19 t19 (len3 fun _ _ _ => ⟨_, rfl, rfl⟩) (lenS2 fun _ _ => ⟨_, rfl, rfl⟩)
  have S20 : Src K mg "is_needed" sNeeded ["web", "tree", "ahead"] := src_mk X G a20 l20 c20 k20 fun _ _ _ _ _ _ => len3 (fun _ _ _ => rfl)
  have S21 : SrcD K mg "by_trees" sByT ["web", "order"] := srcD_mk X G a21 l21 c21 k21 t21 (len2 fun _ _ => ⟨_, rfl, rfl⟩) (lenS1 fun _ => ⟨_, rfl, rfl⟩)
  have S22 : Src K mg "_law_at" sAt ["_law_script", "_law_k"] := src_mk X G a22 l22 c22 k22 fun _ _ _ _ _ _ => len2 (fun _ _ => rfl)
  have S23 : Src K mg "_law_web" sWeb ["_law_script"] := src_mk X G a23 l23 c23 k23 fun _ _ _ _ _ _ => len1 (fun _ => rfl)
  have S24 : Src K mg "_law_order" sOrder ["_law_script", "_law_many"] := src_mk X G a24 l24 c24 k24 fun _ _ _ _ _ _ => len2 (fun _ _ => rfl)
  have S25 : Src K mg "_law_bad" sBad ["_law_order_here", "_law_cell"] := src_mk X G a25 l25 c25 k25 fun _ _ _ _ _ _ => len2 (fun _ _ => rfl)
  have S26 : Src K mg "_law_asked" sAsked ["_law_web_here", "_law_door", "_law_tree", "_law_order_here"] := src_mk X G a26 l26 c26 k26 fun _ _ _ _ _ _ => len4 (fun _ _ _ _ => rfl)
  have S27 : Src K mg "_law_refused" sRefused ["_law_web_here", "_law_door", "_law_tree", "_law_order_here"] := src_mk X G a27 l27 c27 k27 fun _ _ _ _ _ _ => len4 (fun _ _ _ _ => rfl)
  have T : Txt K mg := ⟨PySem.W.mg_none_of X G z0, PySem.W.mg_none_of X G z1, PySem.W.mg_none_of X G z2, PySem.W.mg_none_of X G z3, PySem.W.mg_none_of X G z4, PySem.W.mg_none_of X G z5, PySem.W.mg_none_of X G z6, PySem.W.mg_none_of X G z7, PySem.W.mg_none_of X G z8, PySem.W.mg_none_of X G z9, PySem.W.mg_none_of X G z10, PySem.W.mg_none_of X G z11⟩
  have hany : mg "any" = none := PySem.W.mg_none_of X G z12
  obtain ⟨xa, xc⟩ := chk58b_of x1
  have x3 := of_decide_eq_true x2
  have XR : ExcR K mg E0 (n58 N0 N1 N2 N3 N4 N5 N6 N7) (o58 O0 O1 O2 O3 O4 O5) CW (mroT K CW) := ⟨PySem.W.mg_of X G qE0, PySem.W.mg_of X G qN0, PySem.W.mg_of X G qN1, PySem.W.mg_of X G qN2, PySem.W.mg_of X G qN3, PySem.W.mg_of X G qN4, PySem.W.mg_of X G qN5, PySem.W.mg_of X G qN6, PySem.W.mg_of X G qN7, PySem.W.mg_of X G qO0, PySem.W.mg_of X G qO1, PySem.W.mg_of X G qO2, PySem.W.mg_of X G qO3, PySem.W.mg_of X G qO4, PySem.W.mg_of X G qO5, PySem.W.mg_of X G qw, PySem.W.mg_none_of X G z14, xc, x3.1, x3.2.1, x3.2.2.1, x3.2.2.2.1, x3.2.2.2.2.1, x3.2.2.2.2.2⟩
  refine ⟨PySem.W.fnOf "law" "law" (defArgs sLaw) (defBody sLaw) (defScope sLaw) .none kV28 dc28 pm28 an28 cd28 ct28, fun s v => .of_eq rfl, fun base _ _ => ?_⟩
  have D0 : Def l.prog w K mg base 1 _ _ _ := d_wholeI T S0
  have D3 : Def l.prog w K mg base 1 _ _ _ := d_wp T S3
  have D1 : Def l.prog w K mg base 2 _ _ _ := d_once T S1 D0
  have D2 : Def l.prog w K mg base 3 _ _ _ := d_told T S2 D3 D1
  have D5 : Def l.prog w K mg base 1 _ _ _ := d_more T S5
  have D4 : Def l.prog w K mg base 2 _ _ _ := d_all T S4 D5
  have D6 : Def l.prog w K mg base 1 _ _ _ := d_heads T S6
  have D7 : Def l.prog w K mg base 2 _ _ _ := d_rank T T.set S7 D6
  have D8 : Def l.prog w K mg base 3 _ _ _ := d_rankw S8 D3 D7
  have D9 : Def l.prog w K mg base 1 _ _ _ := d_gath T.p S9
  have D10 : Def l.prog w K mg base 3 _ _ _ := d_pw T S10 D4 D7
  have D11 : Def l.prog w K mg base 4 _ _ _ := d_at_ S11 D8 D10
  have D15 : Def l.prog w K mg base 1 _ _ _ := d_across S15
  have D14 : Def l.prog w K mg base 2 _ _ _ := d_swaps T S14 D6 D3 D15
  have D18 : Def l.prog w K mg base 1 _ _ _ := d_first hany S18
  have D16 : Def l.prog w K mg base 2 _ _ _ := d_isin S16 D18
  have D17 : Def l.prog w K mg base 2 _ _ _ := d_isout S17 D18
  have D12 : DefD l.prog w K mg base 4 _ _ _ := d_inner T S12 D2 D14 D16
  have D13 : DefD l.prog w K mg base 4 _ _ _ := d_outer T S13 D2 D14 D3 D17
  have D21 : DefD l.prog w K mg base 5 _ _ _ := d_byt T S21 D2 D11 D12 D13 D9
  have D22 : Def l.prog w K mg base 1 _ _ _ := d_at T S22
  have D23 : Def l.prog w K mg base 2 _ _ _ := d_web T S23 D22
  have D24 : Def l.prog w K mg base 2 _ _ _ := d_order T S24 D22
  have D25 : Def l.prog w K mg base 1 _ _ _ := d_bad T (PySem.W.mg_none_of X G z13) (by first | rfl | decide +kernel) S25
  have DRF : Def l.prog w K mg base 3 _ _ _ := d_rankwF S8 D3 D7
  have DN : Def l.prog w K mg base 4 _ _ _ := d_needed T S20 D7 DRF
  have DTO : DefD l.prog w K mg base 5 _ _ _ := d_treeof T S19 D2 DN D6 D15
  have BW : Def l.prog w K mg base 1 _ _ _ := d_wholeP T S0
  have BO : Def l.prog w K mg base 2 _ _ _ := d_onceB T S1 BW
  have BT : DefQ l.prog w K mg base 3 _ _ _ := d_toldB T XR.s0 xa S2 D3 BO
  have B0 : DefQ l.prog w K mg base 4 _ _ _ := d_innerB T S12 BT D14 D16
  have B1 : DefQ l.prog w K mg base 4 _ _ _ := d_outerB T S13 BT D14 D3 D17
  have B2 : DefQ l.prog w K mg base 5 _ _ _ := d_treeofB T S19 BT DN D6 D15
  have B3 : DefQ l.prog w K mg base 5 _ _ _ := d_bytB T S21 BT D11 D12 D13 D9
  have LG : Def l.prog w K mg base 6 _ _ _ := d_askG S26 D12 D13 DTO D21
  have LB : DefQ l.prog w K mg base 6 _ _ _ := d_askB S26 B0 B1 B2 B3
  have LR : Def l.prog w K mg base 7 _ _ _ := d_refused T XR S27 LB
  exact ok_law (fun_mk (st := sLaw) l28 c28 k28) T D22 D23 D24 D11 LG D25 LR
theorem walk {l : PySem.W.OpenLaw} {q : Program} {loose : List Str} {XP : (Str -> Option Value) -> Heap -> Prop} {YP : World -> Heap -> Prop} {d : DefRec} {K : Params -> PySem.W.Frag} (hn : l.most = some 63) (hdf : d.params.defaults = [])
    (hY : ∀ (w : World) (h : Heap), YP w h -> (K w.params).In h)
    (F : ∀ (w : World) (mg : Str -> Option Value) (fa : Addr) (h : Heap), (K w.params).In h -> h.Ns mainGlobals mg -> mg d.name = some (.ref fa) ->
      ∃ fd : FuncData, (∀ (s : Shared) (u : Value), BindsTo s fd ⟨[u], []⟩ [("_law_script", u)]) /\ ∀ base : Heap, (K w.params).In base -> base.Ns mainGlobals mg -> FnOk l.prog w (K w.params) mg base CX0 8 fa fd ["_law_script"] (spLaw (K w.params))) :
    PySem.W.WalkO q loose XP YP l.row.toRowW d [] (fun f vs => PySem.call f vs) :=
  L2.walk_of (n := 63) (k := 8) (x := "_law_script") (CX := fun _ => CX0) (sp := fun w => spLaw (K w.params)) hn (by decide) hdf ⟨rfl, by decide, by decide⟩ hY F (fun _ _ a ns hl _ hS => ⟨a, ns, rfl, hS, hl, fun _ => rfl⟩) fun _ _ _ _ _ z => z
end My
def PySem.W.Fast.tw2829143561877947395 : Unit := ()
def PySem.W.Fast.tw8604577966564483975 : Unit := ()
def PySem.W.Fast.tw4750995069456258131 : Unit := ()
def PySem.W.Fast.tw15474178596193248286 : Unit := ()
def PySem.W.Fast.tw11864118515610329174 : Unit := ()
def PySem.W.Fast.tw11470627682810690525 : Unit := ()
def PySem.W.Fast.tw17120285836028684998 : Unit := ()
def PySem.W.Fast.tw8625833254434844887 : Unit := ()
def PySem.W.Fast.tw3912336263587661696 : Unit := ()
def PySem.W.Fast.tw556364680177189294 : Unit := ()
def PySem.W.Fast.tw2511489383561492346 : Unit := ()
def PySem.W.Fast.tw15030076093084289154 : Unit := ()
def PySem.W.Fast.tw4931437300003309944 : Unit := ()
def PySem.W.Fast.tw8493699321659698734 : Unit := ()
def PySem.W.Fast.tw10240404459711431602 : Unit := ()
def PySem.W.Fast.tw2469129818105183317 : Unit := ()
def PySem.W.Fast.tw2713948983650798564 : Unit := ()
def PySem.W.Fast.tw2186689340366932137 : Unit := ()
def PySem.W.Fast.tw1878095493970977695 : Unit := ()
def PySem.W.Fast.tw2897450314292433610 : Unit := ()
open PySem PySem.W PyProof.Rows
set_option maxRecDepth 100000 in
set_option maxHeartbeats 0 in
theorem PySem.Challenge.cw_manycounts_k58_orders_refused_holds : PySem.Challenge.rw_manycounts_k58_orders_refused.Holds := by
  w_on; o_law; k_head; (case hw => w_witness2)
  k_fill
  refine My.walk (l := PySem.Challenge.rw_manycounts_k58_orders_refused) rfl rfl (fun w h Y => PySem.W.kIn_of Y) ?F
  case F =>
    intro w mg fa h KX G hmg
    refine' My.all_mk KX G hmg ?a0 ?l0 ?c0 ?k0 ?a1 ?l1 ?c1 ?k1 ?a2 ?l2 ?c2 ?k2 ?a3 ?l3 ?c3 ?k3 ?a4 ?l4 ?c4 ?k4 ?a5 ?l5 ?c5 ?k5 ?a6 ?l6 ?c6 ?k6 ?a7 ?l7 ?c7 ?k7 ?a8 ?l8 ?c8 ?k8 ?a9 ?l9 ?c9 ?k9 ?a10 ?l10 ?c10 ?k10 ?a11 ?l11 ?c11 ?k11 ?a12 ?l12 ?c12 ?k12 ?t12 ?a13 ?l13 ?c13 ?k13 ?t13 ?a14 ?l14 ?c14 ?k14 ?a15 ?l15 ?c15 ?k15 ?a16 ?l16 ?c16 ?k16 ?a17 ?l17 ?c17 ?k17 ?a18 ?l18 ?c18 ?k18 ?a19 ?l19 ?c19 ?k19 ?t19 ?a20 ?l20 ?c20 ?k20 ?a21 ?l21 ?c21 ?k21 ?t21 ?a22 ?l22 ?c22 ?k22 ?a23 ?l23 ?c23 ?k23 ?a24 ?l24 ?c24 ?k24 ?a25 ?l25 ?c25 ?k25 ?a26 ?l26 ?c26 ?k26 ?a27 ?l27 ?c27 ?k27 ?a28 ?l28 ?c28 ?k28 ?z0 ?z1 ?z2 ?z3 ?z4 ?z5 ?z6 ?z7 ?z8 ?z9 ?z10 ?z11 ?z12 ?z13 ?z14 ?qE0 ?qN0 ?qN1 ?qN2 ?qN3 ?qN4 ?qN5 ?qN6 ?qN7 ?qO0 ?qO1 ?qO2 ?qO3 ?qO4 ?qO5 ?qw ?x1 ?x2
    (case a0 => k_is); (case l0 => k_is); (case c0 => k_is); (case k0 => k_is)
    (case a1 => k_is); (case l1 => k_is); (case c1 => k_is); (case k1 => k_is)
    (case a2 => k_is); (case l2 => k_is); (case c2 => k_is); (case k2 => k_is)
    (case a3 => k_is); (case l3 => k_is); (case c3 => k_is); (case k3 => k_is)
    (case a4 => k_is); (case l4 => k_is); (case c4 => k_is); (case k4 => k_is)
    (case a5 => k_is); (case l5 => k_is); (case c5 => k_is); (case k5 => k_is)
    (case a6 => k_is); (case l6 => k_is); (case c6 => k_is); (case k6 => k_is)
    (case a7 => k_is); (case l7 => k_is); (case c7 => k_is); (case k7 => k_is)
    (case a8 => k_is); (case l8 => k_is); (case c8 => k_is); (case k8 => k_is)
    (case a9 => k_is); (case l9 => k_is); (case c9 => k_is); (case k9 => k_is)
    (case a10 => k_is); (case l10 => k_is); (case c10 => k_is); (case k10 => k_is)
    (case a11 => k_is); (case l11 => k_is); (case c11 => k_is); (case k11 => k_is)
    (case a12 => k_is); (case l12 => k_is); (case c12 => k_is); (case k12 => k_is)
    (case t12 => k_is); (case a13 => k_is); (case l13 => k_is); (case c13 => k_is)
    (case k13 => k_is); (case t13 => k_is); (case a14 => k_is); (case l14 => k_is)
    (case c14 => k_is); (case k14 => k_is); (case a15 => k_is); (case l15 => k_is)
    (case c15 => k_is); (case k15 => k_is); (case a16 => k_is); (case l16 => k_is)
    (case c16 => k_is); (case k16 => k_is); (case a17 => k_is); (case l17 => k_is)
    (case c17 => k_is); (case k17 => k_is); (case a18 => k_is); (case l18 => k_is)
    (case c18 => k_is); (case k18 => k_is); (case a19 => k_is); (case l19 => k_is)
    (case c19 => k_is); (case k19 => k_is); (case t19 => k_is); (case a20 => k_is)
    (case l20 => k_is); (case c20 => k_is); (case k20 => k_is); (case a21 => k_is)
    (case l21 => k_is); (case c21 => k_is); (case k21 => k_is); (case t21 => k_is)
    (case a22 => k_is); (case l22 => k_is); (case c22 => k_is); (case k22 => k_is)
    (case a23 => k_is); (case l23 => k_is); (case c23 => k_is); (case k23 => k_is)
    (case a24 => k_is); (case l24 => k_is); (case c24 => k_is); (case k24 => k_is)
    (case a25 => k_is); (case l25 => k_is); (case c25 => k_is); (case k25 => k_is)
    (case a26 => k_is); (case l26 => k_is); (case c26 => k_is); (case k26 => k_is)
    (case a27 => k_is); (case l27 => k_is); (case c27 => k_is); (case k27 => k_is)
    (case a28 => k_is); (case l28 => k_is); (case c28 => k_is); (case k28 => k_is)
    (case z0 => k_is); (case z1 => k_is); (case z2 => k_is); (case z3 => k_is)
    (case z4 => k_is); (case z5 => k_is); (case z6 => k_is); (case z7 => k_is)
    (case z8 => k_is); (case z9 => k_is); (case z10 => k_is); (case z11 => k_is)
    (case z12 => k_is); (case z13 => k_is); (case z14 => k_is)
    (case qE0 => k_is)
    (case qN0 => k_is)
    (case qN1 => k_is)
    (case qN2 => k_is)
    (case qN3 => k_is)
    (case qN4 => k_is)
    (case qN5 => k_is)
    (case qN6 => k_is)
    (case qN7 => k_is)
    (case qO0 => k_is)
    (case qO1 => k_is)
    (case qO2 => k_is)
    (case qO3 => k_is)
    (case qO4 => k_is)
    (case qO5 => k_is)
    (case qw => k_is)
    (case x1 => kernel_rfl)
    (case x2 => kernel_rfl)
