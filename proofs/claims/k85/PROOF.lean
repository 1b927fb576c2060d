import PyProof.Rows.All
import Wide.All
import OpenK.AllK
import Wide.FinOn
import Lean
import PyProof.EqAt
import PyProof.EqKinds
import PyProof.TupleCall
import KE.KIsAll
import PyProof.DictItems
import KE.KPairComp
import KE.KSortTup
import KE.IntBitsLaws
import KE.KRevIter
import PySem.Challenge.RW_manycounts_k85_no_drawings
set_option Elab.async false
set_option linter.all false
set_option maxRecDepth 100000
set_option maxHeartbeats 4000000
namespace L2
open PySem PySem.Spec PyProof.Rows
abbrev Key := Sum Int Str
def keyIs : Key -> Value -> Bool
  | .inl k, v => Value.isInt k v
  | .inr x, v => Value.isStrOf x v
def keyH (w : World) : Key -> Int
  | .inl k => hashInt k
  | .inr x => hashStr w x
theorem keyIs_shape : ∀ {k : Key} {v : Value}, keyIs k v = true -> (∃ i t, k = Sum.inl i /\ v = Value.int i t) \/ (∃ x t, k = Sum.inr x /\ v = Value.str x t)
  | .inl i, v, h => by
    obtain ⟨t, e⟩ := Value.isInt_shape (k := i) (v := v) h
    exact .inl ⟨i, t, rfl, e⟩
  | .inr x, v, h => by
    obtain ⟨t, e⟩ := Value.isStrOf_shape (x := x) (v := v) h
    exact .inr ⟨x, t, rfl, e⟩
theorem keyIs_int (i : Int) (t : Tok) : keyIs (.inl i) (.int i t) = true := by simp [keyIs, Value.isInt]
theorem keyIs_str (x : Str) (t : Tok) : keyIs (.inr x) (.str x t) = true := by simp [keyIs, Value.isStrOf]
theorem key_ll (a b : Int) : decide ((Sum.inl a : Key) = Sum.inl b) = (a == b) := by
  by_cases e : a = b
  · subst e; simp
  · have h : ¬ (Sum.inl a : Key) = Sum.inl b := fun q => e (Sum.inl.inj q)
    rw [decide_eq_false h]
    exact (beq_eq_false_iff_ne.mpr e).symm
theorem key_rr (a b : Str) : decide ((Sum.inr a : Key) = Sum.inr b) = decide (a = b) := by
  by_cases e : a = b
  · subst e; simp
  · have h : ¬ (Sum.inr a : Key) = Sum.inr b := fun q => e (Sum.inr.inj q)
    rw [decide_eq_false h, decide_eq_false e]
theorem key_lr (a : Int) (b : Str) : decide ((Sum.inl a : Key) = Sum.inr b) = false := decide_eq_false (fun q => nomatch q)
theorem key_rl (a : Str) (b : Int) : decide ((Sum.inr a : Key) = Sum.inl b) = false := decide_eq_false (fun q => nomatch q)
def mixKind (prog : Program) (w : World) : PySem.KeyKind prog w Key where
  is := keyIs
  hash := keyH w
  inj := fun v a b ha hb => by
    rcases keyIs_shape ha with ⟨i, t, rfl, rfl⟩ | ⟨x, t, rfl, rfl⟩
    · rcases keyIs_shape hb with ⟨j, u, rfl, e⟩ | ⟨y, u, rfl, e⟩
      · injection e with e1 _; rw [e1]
      · exact nomatch e
    · rcases keyIs_shape hb with ⟨j, u, rfl, e⟩ | ⟨y, u, rfl, e⟩
      · exact nomatch e
      · injection e with e1 _; rw [e1]
  byValue := fun k v h => by
    rcases keyIs_shape h with ⟨i, t, rfl, rfl⟩ | ⟨x, t, rfl, rfl⟩ <;> rfl
  pyHash := fun hv h => by
    rcases keyIs_shape hv with ⟨i, t, rfl, rfl⟩ | ⟨x, t, rfl, rfl⟩
    · exact wpAny_pyHash_int h
    · exact wpAny_pyHash_str h
  eqBool := fun hu hv h => by
    rcases keyIs_shape hu with ⟨i, t, rfl, rfl⟩ | ⟨x, t, rfl, rfl⟩
    · rcases keyIs_shape hv with ⟨j, u, rfl, rfl⟩ | ⟨y, u, rfl, rfl⟩
      · rw [key_ll] at h; exact wpAny_eqBool_int h
      · rw [key_lr] at h; exact SeqAt.EqAt.int_str i t y u _ _ _ _ h
    · rcases keyIs_shape hv with ⟨j, u, rfl, rfl⟩ | ⟨y, u, rfl, rfl⟩
      · rw [key_rl] at h; exact SeqAt.EqAt.str_int x t j u _ _ _ _ h
      · rw [key_rr] at h; exact wpAny_eqBool_str h
  «strs» := fun k x t v h => by
    rcases keyIs_shape h with ⟨i, u, rfl, e⟩ | ⟨y, u, rfl, e⟩
    · exact nomatch e
    · injection e with e1 _
      subst e1
      cases v <;> rfl
theorem mixKind_int (prog : Program) (w : World) (i : Int) (t : Tok) : (mixKind prog w).is (.inl i) (.int i t) = true := keyIs_int i t
theorem mixKind_str (prog : Program) (w : World) (x : Str) (t : Tok) : (mixKind prog w).is (.inr x) (.str x t) = true := keyIs_str x t
inductive V where
  | non | bl (b : Bool) | int (i : Int) | str (x : Str) | byt (b : Array UInt8) | flt (b : UInt64) | ref (a : Addr) | ty (n : String)
  deriving DecidableEq
def RelV : V -> Value -> Prop
  | .non, u => u = Value.none
  | .bl b, u => u = Value.bool b
  | .int i, u => ∃ t, u = Value.int i t
  | .str x, u => ∃ t, u = Value.str x t
  | .byt b, u => ∃ t, u = Value.bytes b t
  | .flt b, u => ∃ t, u = Value.float b t
  | .ref a, u => u = Value.ref a
  | .ty n, u => u = Value.type n
abbrev Vals : List V -> List Value -> Prop := Paired RelV
theorem Vals.length {xs : List V} {us : List Value} (r : Vals xs us) : xs.length = us.length := Paired.length r
theorem Vals.get : ∀ {xs : List V} {us : List Value} {i : Nat} {x : V}, Vals xs us -> xs[i]? = some x -> ∃ u, us[i]? = some u /\ RelV x u
  | _, _, _, _, .nil, e => by simp at e
  | _, _, 0, _, .cons r _, e => by simp at e; subst e; exact ⟨_, rfl, r⟩
  | _, _, i + 1, x, .cons _ t, e => by
    obtain ⟨u, h1, h2⟩ := Vals.get (i := i) (x := x) t (by simpa using e)
    exact ⟨u, by simpa using h1, h2⟩
theorem Vals.append : ∀ {xs ys : List V} {us ws : List Value}, Vals xs us -> Vals ys ws -> Vals (xs ++ ys) (us ++ ws)
  | _, _, _, _, .nil, s => s
  | _, _, _, _, .cons r t, s => .cons r (Vals.append t s)
theorem Vals.take : ∀ {xs : List V} {us : List Value} (n : Nat), Vals xs us -> Vals (xs.take n) (us.take n)
  | _, _, 0, _ => .nil
  | _, _, _ + 1, .nil => .nil
  | _, _, n + 1, .cons r t => .cons r (Vals.take n t)
theorem Vals.drop : ∀ {xs : List V} {us : List Value} (n : Nat), Vals xs us -> Vals (xs.drop n) (us.drop n)
  | _, _, 0, r => r
  | _, _, _ + 1, .nil => .nil
  | _, _, n + 1, .cons _ t => Vals.drop n t
def RelO : Option V -> Option Value -> Prop
  | some v, some u => RelV v u
  | none, none => True
  | _, _ => False
def KV {κ : Type} : List (κ × V) -> List (κ × Value) -> Prop := Paired fun (p : κ × V) (q : κ × Value) => p.1 = q.1 /\ RelV p.2 q.2
def kV : Key -> V
  | .inl i => .int i
  | .inr x => .str x
inductive HO where
    | lst (xs : List V)
    | tup (xs : List V)
    | dK (kvs : List (Key × V)) | dT (kvs : List (List Key × V))
    | set (S : Int -> Bool) (n : Nat)
    | ins (C dx : Addr) (fs : List (Str × V))
    | own (x : Addr)
    | xd (fs : List (Str × V))
    | met (f x : Addr)
    | rng (lo hi : Int)
    | frz (o : Obj) (u : HO)
    | tbl (ps : Array Value)
    | ext (φ : Heap -> Prop)
abbrev Hp := Addr -> Option HO
def upd (H : Hp) (a : Addr) (o : HO) : Hp := fun b => if b = a then some o else H b
theorem upd_same {H : Hp} {a : Addr} {o : HO} : upd H a o a = some o := by unfold upd; rw [if_pos rfl]
theorem upd_ne {H : Hp} {a b : Addr} {o : HO} (h : b ≠ a) : upd H a o b = H b := by unfold upd; rw [if_neg h]
theorem ne_of {H : Hp} {a b : Addr} {o u : HO} (h : H a = some o) (h' : H b = some u) (d : o ≠ u) : a ≠ b := by
  intro e; subst e; rw [h] at h'; exact d (Option.some.inj h')
theorem ne_of_none {H : Hp} {a b : Addr} {o : HO} (h : H a = some o) (h' : H b = none) : a ≠ b := by
  intro e; subst e; rw [h] at h'; cases h'
section
variable (P : Program) (w : World)
def ObjOk (H : Hp) (h : Heap) (a : Addr) : HO -> Prop
  | .lst xs => xs.length <= sizeLine /\ ∃ (its : List Value) (n : Nat), Vals xs its /\ h.get? a = some { cls := .type "list", data := .seq its.toArray n }
  | .tup xs => xs.length <= sizeLine /\ ∃ its : List Value, Vals xs its /\ IsTup h a its.toArray
  | .dK kvs => kvs.length <= sizeLine /\ (a == sysModules) = false /\ ∃ vs, KV kvs vs /\ h.DictOf (mixKind P w) a vs
  | .dT kvs => kvs.length <= sizeLine /\ (a == sysModules) = false /\ ∃ xs : List (List Key × Addr × Value),
      Paired (fun (p : List Key × V) (q : List Key × Addr × Value) => p.1 = q.1 /\ H q.2.1 = some (.tup (p.1.map kV)) /\ RelV p.2 q.2.2) kvs xs /\
      ∃ o es ep, h.get? a = some o /\ o.ExactDict /\ o.data = .dict es ep /\ es.toList = xs.map (entryOfKey (tupleKind (mixKind P w))) /\ (xs.map (·.1)).Nodup
  | .set S n => h.SetOf (intKind P w) a S n
  | .ins C dx fs => H dx = some (.own a) /\ fs.length <= 1000 /\ dx ≠ a /\ h.get? a = some (PySem.W.instObj C dx) /\
      ∃ mA, h.Ns1 dx mA /\ (∀ f, RelO (fs.lookup f) (mA f)) /\ PySem.Within mA (fs.map (·.1))
  | .own _ => ∃ o, h.get? a = some o
  | .xd fs => ∃ mA, h.Ns1 a mA /\ ∀ f, RelO (fs.lookup f) (mA f)
  | .rng lo hi => ∃ t u v, h.get? a = some { cls := .type "range", data := .fields #[.int lo t, .int hi u, .int 1 v] }
  | .frz o u => h.get? a = some o /\ ObjOk H h a u
  | .tbl ps => h.get? a = some { cls := .none, data := .fields ps }
  | .met f x => h.get? a = some (PySem.W.methodObj (.ref f) (.ref x))
  | .ext φ => φ h /\ (∃ o, h.get? a = some o) /\ ∀ h1 h2 : Heap, φ h1 -> (∀ o, h1.get? a = some o -> h2.get? a = some o) -> φ h2
def HOk (H : Hp) (h : Heap) : Prop := ∀ a o, H a = some o -> ObjOk P w H h a o
end
section
variable {P : Program} {w : World} {H H' : Hp} {h h' : Heap} {a : Addr} {o : HO}
theorem ObjOk.lt (x : ObjOk P w H h a o) : a < h.objs.size := by
  cases o with
  | lst xs => obtain ⟨_, _, _, _, e⟩ := x; exact Heap.lt_size e
  | tup xs => obtain ⟨_, _, _, p⟩ := x; exact p.lt
  | dK kvs => obtain ⟨_, _, _, _, o, _, _, e, _⟩ := x; exact Heap.lt_size e
  | dT kvs => obtain ⟨_, _, _, _, o, _, _, e, _⟩ := x; exact Heap.lt_size e
  | set S n => obtain ⟨o, _, _, _, e, _⟩ := x; exact Heap.lt_size e
  | ins C dx fs => obtain ⟨_, _, _, e, _⟩ := x; exact Heap.lt_size e
  | own y => obtain ⟨_, e⟩ := x; exact Heap.lt_size e
  | xd fs => obtain ⟨_, ⟨_, _, _, e, _⟩, _⟩ := x; exact Heap.lt_size e
  | rng lo hi => obtain ⟨_, _, _, e⟩ := x; exact Heap.lt_size e
  | frz ob u => obtain ⟨e, _⟩ := x; exact Heap.lt_size e
  | tbl ps => exact Heap.lt_size (show h.get? a = some _ from x)
  | met f y => exact Heap.lt_size (show h.get? a = some _ from x)
  | ext φ => obtain ⟨_, ⟨_, e⟩, _⟩ := x; exact Heap.lt_size e
theorem Paired.mapP {α β : Type} {F G : α -> β -> Prop} : ∀ {l₁ : List α} {l₂ : List β}, Paired F l₁ l₂ -> (∀ a b, F a b -> G a b) -> Paired G l₁ l₂
  | _, _, .nil, _ => .nil
  | _, _, .cons r t, f => .cons (f _ _ r) (Paired.mapP t f)
theorem ObjOk.stay (x : ObjOk P w H h a o) (k : ∀ b u, (b = a \/ H b = some (.own a)) -> h.get? b = some u -> h'.get? b = some u)
    (ho : ∀ b, H b = some (.own a) -> H' b = some (.own a)) (ht : ∀ b xs, H b = some (.tup xs) -> H' b = some (.tup xs)) : ObjOk P w H' h' a o := by
  induction o with
  | lst xs => obtain ⟨z, its, n, r, e⟩ := x; exact ⟨z, its, n, r, k _ _ (.inl rfl) e⟩
  | tup xs => obtain ⟨z, its, r, ob, e, c⟩ := x; exact ⟨z, its, r, ob, k _ _ (.inl rfl) e, c⟩
  | dK kvs => obtain ⟨z, y, vs, r, ob, es, ep, e, c⟩ := x; exact ⟨z, y, vs, r, ob, es, ep, k _ _ (.inl rfl) e, c⟩
  | dT kvs =>
    obtain ⟨z, y, xs, r, ob, es, ep, e, c⟩ := x
    exact ⟨z, y, xs, Paired.mapP r fun p q z => ⟨z.1, ht _ _ z.2.1, z.2.2⟩, ob, es, ep, k _ _ (.inl rfl) e, c⟩
  | set S n => obtain ⟨ob, es, ep, t, e, c⟩ := x; exact ⟨ob, es, ep, t, k _ _ (.inl rfl) e, c⟩
  | ins C dx fs =>
    obtain ⟨d, z, ne, e, mA, ⟨od, es, ep, e2, c⟩, r⟩ := x
    exact ⟨ho _ d, z, ne, k _ _ (.inl rfl) e, mA, ⟨od, es, ep, k _ _ (.inr d) e2, c⟩, r⟩
  | own y => obtain ⟨ob, e⟩ := x; exact ⟨ob, k _ _ (.inl rfl) e⟩
  | xd fs => obtain ⟨mA, ⟨od, es, ep, e, c⟩, r⟩ := x; exact ⟨mA, ⟨od, es, ep, k _ _ (.inl rfl) e, c⟩, r⟩
  | rng lo hi => obtain ⟨t, u, v, e⟩ := x; exact ⟨t, u, v, k _ _ (.inl rfl) e⟩
  | frz ob u ih => obtain ⟨e, q⟩ := x; exact ⟨k _ _ (.inl rfl) e, ih q⟩
  | tbl ps =>
    have e : h.get? a = some { cls := .none, data := .fields ps } := x
    show h'.get? a = some { cls := .none, data := .fields ps }
    exact k a _ (.inl rfl) e
  | met f y =>
    have e : h.get? a = some (PySem.W.methodObj (.ref f) (.ref y)) := x
    show h'.get? a = some (PySem.W.methodObj (.ref f) (.ref y))
    exact k a _ (.inl rfl) e
  | ext φ => obtain ⟨p, ⟨o, e⟩, st⟩ := x; exact ⟨st _ _ p fun o q => k _ _ (.inl rfl) q, ⟨o, k _ _ (.inl rfl) e⟩, st⟩
theorem HOk.lt (x : HOk P w H h) (e : H a = some o) : a < h.objs.size := (x a o e).lt
theorem HOk.fresh (x : HOk P w H h) (e : h.objs.size <= a) : H a = none := by
  cases q : H a with
  | none => rfl
  | some u => exact absurd (Nat.lt_of_lt_of_le (x.lt q) e) (Nat.lt_irrefl _)
theorem HOk.kept (x : HOk P w H h) (k : ∀ b u, h.get? b = some u -> h'.get? b = some u) : HOk P w H h' := fun a o e =>
  (x a o e).stay (fun b u _ q => k b u q) (fun _ q => q) fun _ _ q => q
theorem HOk.laid (x : HOk P w H h) (k : ∀ b u, h.get? b = some u -> h'.get? b = some u) (hp : h.objs.size <= a) (new : ObjOk P w (upd H a o) h' a o) : HOk P w (upd H a o) h' := fun b u e => by
  have hn := x.fresh hp
  by_cases hb : b = a
  · subst hb; rw [upd_same] at e; cases e; exact new
  · rw [upd_ne hb] at e
    exact (x b u e).stay (fun c v _ q => k c v q) (fun c q => by rw [upd_ne (ne_of_none q hn)]; exact q) fun c xs q => by rw [upd_ne (ne_of_none q hn)]; exact q
end
def Rd (H : Hp) (a : Addr) (u : HO) : Prop := H a = some u \/ ∃ o, H a = some (.frz o u)
theorem Rd.ok {P : Program} {w : World} {H : Hp} {h : Heap} {a : Addr} {u : HO} (r : Rd H a u) (x : HOk P w H h) : ObjOk P w H h a u := by
  rcases r with r | ⟨o, r⟩
  · exact x a u r
  · obtain ⟨_, q⟩ := x a _ r
    exact q
def Mut : Option HO -> Prop
  | some (.lst _) => True
  | some (.dK _) => True
  | some (.dT _) => True
  | some (.set _ _) => True
  | some (.ins _ _ _) => True
  | some (.ext _) => True
  | _ => False
section
variable {P : Program} {w : World} {H : Hp} {h h' : Heap} {x e : Addr} {o' : HO}
theorem HOk.write (ok : HOk P w H h) (mu : Mut (H x)) (he : e = x \/ H e = some (.own x)) (k : ∀ b u, b ≠ e -> h.get? b = some u -> h'.get? b = some u) (heo : ∃ u, h'.get? e = some u)
    (new : ObjOk P w (upd H x o') h' x o') : HOk P w (upd H x o') h' := fun b u q => by
  have nown : ∀ c y, H c = some (.own y) -> c ≠ x := fun c y r z => by subst z; rw [r] at mu; exact mu
  have ntup : ∀ c xs, H c = some (.tup xs) -> c ≠ x := fun c xs r z => by subst z; rw [r] at mu; exact mu
  by_cases hb : b = x
  · subst hb; rw [upd_same] at q; cases q; exact new
  · rw [upd_ne hb] at q
    by_cases hbe : b = e
    · have q' : H b = some (.own x) := by
        rcases he with z | z
        · exact absurd (hbe.trans z) hb
        · rw [hbe]; exact z
      rw [q] at q'; cases q'
      obtain ⟨v, hv⟩ := heo
      exact ⟨v, by rw [hbe]; exact hv⟩
    · refine (ok b u q).stay (fun c v hc r => k c v ?_ r) (fun c r => by rw [upd_ne (nown c b r)]; exact r) fun c xs r => by rw [upd_ne (ntup c xs r)]; exact r
      rcases hc with rfl | hc
      · exact hbe
      · rintro rfl
        rcases he with z | z
        · exact nown c b hc z
        · rw [hc] at z; cases z; exact hb rfl
end
structure Un (fs ex : List Addr) (H H' : Hp) (h h' : Heap) : Prop where
  keep : ∀ b o, h.get? b = some o -> H b = none -> b ∉ fs -> b ∉ ex -> h'.get? b = some o
  slot : ∀ b o, h.get? b = some o -> H b = none -> b ∈ fs -> b ∉ ex -> ∃ sl, h'.get? b = some { o with slots := sl }
  free : ∀ b o, h.get? b = some o -> H b = none -> b ∉ ex -> H' b = none
  there : ∀ b o, h.get? b = some o -> b ∉ ex -> ∃ o', h'.get? b = some o'
  tups : ∀ b xs, H b = some (.tup xs) -> H' b = some (.tup xs)
  frzs : ∀ b o u, H b = some (.frz o u) -> H' b = some (.frz o u)
  tbls : ∀ b ps, H b = some (.tbl ps) -> ∃ more, H' b = some (.tbl (ps ++ more))
section
variable {fs fs' ex ex' : List Addr} {H H1 H2 : Hp} {h h1 h2 h' : Heap} {a x e : Addr} {o : HO}
theorem Un.any (u : Un fs ex H H1 h h1) {b : Addr} {ob : Obj} (q : h.get? b = some ob) (n : H b = none) (hx : b ∉ ex) : ∃ sl, h1.get? b = some { ob with slots := sl } := by
  by_cases hb : b ∈ fs
  · exact u.slot b ob q n hb hx
  · exact ⟨ob.slots, u.keep b ob q n hb hx⟩
theorem Un.kept (k : ∀ b u, h.get? b = some u -> h'.get? b = some u) : Un fs ex H H h h' :=
  ⟨fun b ob q _ _ _ => k b ob q, fun b ob q _ _ _ => ⟨ob.slots, k b ob q⟩, fun _ _ _ n _ => n, fun b ob q _ => ⟨ob, k b ob q⟩, fun _ _ q => q, fun _ _ _ q => q, fun _ ps q => ⟨#[], by rw [q]; simp⟩⟩
theorem Un.refl : Un fs ex H H h h := Un.kept fun _ _ q => q
theorem Un.laid (k : ∀ b u, h.get? b = some u -> h'.get? b = some u) (hp : h.objs.size <= a) (hn : H a = none) : Un fs ex H (upd H a o) h h' where
  keep := fun b u q _ _ _ => k b u q
  slot := fun b u q _ _ _ => ⟨u.slots, k b u q⟩
  free := fun b u q n _ => by rw [upd_ne (Nat.ne_of_lt (Nat.lt_of_lt_of_le (Heap.lt_size q) hp))]; exact n
  there := fun b u q _ => ⟨u, k b u q⟩
  tups := fun b xs q => by rw [upd_ne (ne_of_none q hn)]; exact q
  frzs := fun b u xs q => by rw [upd_ne (ne_of_none q hn)]; exact q
  tbls := fun b ps q => ⟨#[], by rw [upd_ne (ne_of_none q hn), q]; simp⟩
theorem Un.write (mu : Mut (H x)) (he : e = x \/ H e = some (.own x)) (k : ∀ b u, b ≠ e -> h.get? b = some u -> h'.get? b = some u) (heo : ∃ u, h'.get? e = some u) : Un fs ex H (upd H x o) h h' := by
  have hx : ∀ b, H b = none -> b ≠ x := fun b n z => by subst z; rw [n] at mu; exact mu
  have hb : ∀ b, H b = none -> b ≠ e := fun b n z => by
    subst z
    rcases he with r | r
    · exact hx b n r
    · rw [n] at r; cases r
  have hm : ∀ b u, H b = some u -> ¬ Mut (some u) -> b ≠ x := fun b u q nm z => by subst z; rw [q] at mu; exact nm mu
  refine ⟨fun b u q n _ _ => k b u (hb b n) q, fun b u q n _ _ => ⟨u.slots, k b u (hb b n) q⟩, fun b u q n _ => by rw [upd_ne (hx b n)]; exact n, fun b u q _ => ?_,
    fun b xs q => by rw [upd_ne (hm b _ q fun z => z)]; exact q, fun b u xs q => by rw [upd_ne (hm b _ q fun z => z)]; exact q, fun b ps q => ⟨#[], by rw [upd_ne (hm b _ q fun z => z), q]; simp⟩⟩
  by_cases hbe : b = e
  · subst hbe; exact heo
  · exact ⟨u, k b u hbe q⟩
end
def trk (h : Heap) (H : Hp) : List Addr := (List.range h.objs.size).filter fun a => (H a).isSome
def hidT (h : Heap) (H : Hp) : Heap := PySem.W.hideAll h (trk h H)
theorem hidT_size (h : Heap) (H : Hp) : (hidT h H).objs.size = h.objs.size := PySem.W.hideAll_size _ _
theorem hidT_get {h : Heap} {H : Hp} {b : Addr} {o : Obj} (e : h.get? b = some o) (n : H b = none) : (hidT h H).get? b = some o :=
  PySem.W.hideAll_get _ e fun hm => by
    have q : (H b).isSome = true := (List.mem_filter.mp hm).2
    rw [n] at q; simp at q
theorem of_hidT {h : Heap} {H : Hp} {b : Addr} {o : Obj} (e : (hidT h H).get? b = some o) : h.get? b = some o /\ H b = none := by
  have e' : h.get? b = some o := PySem.W.of_hideAll (trk h H) e
  refine ⟨e', ?_⟩
  cases q : H b with
  | none => rfl
  | some x =>
    have hm : b ∈ trk h H := List.mem_filter.mpr ⟨List.mem_range.mpr (Heap.lt_size e'), by simp [q]⟩
    have z : (hidT h H).get? b = none := PySem.W.hideAll_none (trk h H) hm
    rw [z] at e; cases e
def allNews (g h : Heap) (L : Addr) : List (Addr × Obj) := (List.range h.objs.size).filterMap fun a => if a = L \/ (g.get? a).isSome = true then none else (h.get? a).map fun o => (a, o)
def rest (g h : Heap) (L d : Addr) : List (Addr × Obj) := (allNews g h L).filter fun p => decide (p.1 ≠ d)
structure Mod (K : PySem.W.Frag) (mg : Str -> Option Value) (base : Heap) : Prop where
  kin : K.In base
  glob : base.Ns mainGlobals mg
  blt : ∃ mb, base.Ns builtinsNs mb /\ ∀ x : Str, x ≠ "__name__" -> mb x = bootBuiltins x
  nolimit : base.NoLimit
structure Cx where
  prog : Program
  w : World
  K : PySem.W.Frag
  mg : Str -> Option Value
  base : Heap
  A : Around
  N : List Str
  s₀ : Shared
  H₀ : Hp
  env : Env
  outer : List Env
  stack : List Env
  ex : List Addr
  fn : Str -> Bool
  calm : Bool
  pn : List (Addr × Obj)
  xe : Value -> Shared -> Prop
def frs (l : List Env) : List Addr := l.filterMap (·.frame)
abbrev Cx.fs (X : Cx) : List Addr := frs X.outer
def Vis (sc : Scope) (x : Str) : Prop := sc.names.lookup x = some .local \/ sc.names.lookup x = some .cell \/ sc.names.lookup x = some .free
def Loc (sc : Scope) (x : Str) : Prop := sc.names.lookup x = some .local \/ sc.names.lookup x = some .cell
def Look (env : Env) (h : Heap) (m : Str -> Option Value) (x : Str) (u : Value) : Prop :=
  (env.kindOf x = some .local /\ m x = some u) \/ ((env.kindOf x = some .cell \/ env.kindOf x = some .free) /\ ∃ c, env.cells.lookup x = some c /\ h.IsCell c (some u))
structure Cx.Ok (X : Cx) : Prop where
  mod : Mod X.K X.mg X.base
  kind : X.env.scope.kind = .function
  glob : X.env.globals = mainGlobals
  blt : X.env.builtins = builtinsNs
  above : X.s₀.heap.objs.size <= X.env.locals
  inj : ∀ x y c, X.env.cells.lookup x = some c -> X.env.cells.lookup y = some c -> x = y
  has : ∀ x, (X.env.kindOf x = some .cell \/ X.env.kindOf x = some .free) -> ∃ c, X.env.cells.lookup x = some c
  cab : ∀ x c, X.fn x = true -> X.env.cells.lookup x = some c -> X.s₀.heap.objs.size <= c
  hd : X.calm = true -> X.A.handled = none
  frames : X.A.frames = some X.stack
  stk : X.stack = X.outer \/ (X.stack = X.env :: X.outer /\ X.env.frame = some X.env.locals)
  exf : ∀ b ∈ X.ex, b ≠ X.env.locals /\ ∀ x c, X.env.cells.lookup x = some c -> c ≠ b
  bs : ∀ b o, X.base.get? b = some o -> X.s₀.heap.get? b = some o /\ X.H₀ b = none
  bsz : X.base.objs.size <= X.s₀.heap.objs.size
  noex : ∀ b o, X.base.get? b = some o -> b ∉ X.ex
  exfs : ∀ b ∈ X.ex, b ∉ X.fs
  funs : X.s₀.heap.FunFrames X.base X.outer
  frf : ∀ b ∈ X.fs, X.H₀ b = none
structure Inv (X : Cx) (pins : List (Addr × Obj)) (σ : List (Option V)) (H : Hp) (s : Shared) : Prop where
  ok : X.Ok
  os : s.os = X.s₀.os
  bare : AllBare s.gens
  base : Un X.fs X.ex X.H₀ H X.s₀.heap s.heap
  loc : ∃ m, s.heap.Ns X.env.locals m /\ ∀ (i : Nat) (x : Str) (v : V), X.N[i]? = some x -> σ[i]? = some (some v) -> Vis X.env.scope x -> ∃ u, RelV v u /\ Look X.env s.heap m x u
  cell : ∀ x c, X.env.cells.lookup x = some c -> ∃ v, s.heap.IsCell c v
  free : H X.env.locals = none
  freeC : ∀ x c, X.env.cells.lookup x = some c -> H c = none
  pin : ∀ p ∈ X.pn ++ pins, s.heap.get? p.1 = some p.2 /\ H p.1 = none /\ p.1 ≠ X.env.locals /\ p.1 ∉ X.fs /\ ∀ v, p.2.data ≠ .cell v
  hok : HOk X.prog X.w H s.heap
  len : σ.length = X.N.length
section
variable {X : Cx} {pins : List (Addr × Obj)} {σ : List (Option V)} {H H' : Hp} {s : Shared} {h' : Heap}
theorem Cx.Ok.nofr (ok : X.Ok) {b : Addr} {o : Obj} (e : X.base.get? b = some o) : b ∉ X.fs := fun hb => by
  have := (ok.funs.mem hb).1
  rw [e] at this; cases this
theorem Inv.bs (I : Inv X pins σ H s) : ∀ b o, X.base.get? b = some o -> s.heap.get? b = some o /\ H b = none := fun b o e =>
  ⟨I.base.keep b o (I.ok.bs b o e).1 (I.ok.bs b o e).2 (I.ok.nofr e) (I.ok.noex b o e), I.base.free b o (I.ok.bs b o e).1 (I.ok.bs b o e).2 (I.ok.noex b o e)⟩
theorem Inv.bk (I : Inv X pins σ H s) : ∀ b o, X.base.get? b = some o -> s.heap.get? b = some o := fun b o e => (I.bs b o e).1
theorem Inv.mod (I : Inv X pins σ H s) : Mod X.K X.mg X.base := I.ok.mod
theorem Inv.kIn (I : Inv X pins σ H s) : X.K.In s.heap := I.ok.mod.kin.keeps I.bk
theorem Inv.lt (I : Inv X pins σ H s) : X.env.locals < s.heap.objs.size := let ⟨_, hn, _⟩ := I.loc; hn.lt
theorem Inv.sz (I : Inv X pins σ H s) : X.s₀.heap.objs.size <= s.heap.objs.size := Nat.le_trans I.ok.above (Nat.le_of_lt I.lt)
theorem Inv.nofs (I : Inv X pins σ H s) {a : Addr} (h : s.heap.objs.size <= a) : a ∉ X.fs := fun hb => by
  obtain ⟨_, o, ho, _⟩ := I.ok.funs.mem hb
  exact absurd (Nat.lt_of_lt_of_le (Heap.lt_size ho) (Nat.le_trans I.sz h)) (Nat.lt_irrefl _)
theorem Inv.cne (I : Inv X pins σ H s) : ∀ x c, X.env.cells.lookup x = some c -> c ≠ X.env.locals := fun x c e z => by
  obtain ⟨v, o, ho, hd⟩ := I.cell x c e
  obtain ⟨m, ⟨o', es, ep, ho', hd', _⟩, _⟩ := I.loc
  rw [z, ho'] at ho; cases ho; rw [hd'] at hd; cases hd
theorem Inv.funs (I : Inv X pins σ H s) : s.heap.FunFrames X.base X.outer := by
  have all : ∀ (l : List Env), (∀ b ∈ frs l, b ∈ X.fs) -> X.s₀.heap.FunFrames X.base l -> s.heap.FunFrames X.base l := by
    intro l
    induction l with
    | nil => intro _ _; trivial
    | cons env r ih =>
      intro hs hl
      obtain ⟨hk, ⟨L, o, hf, hn, ho, hd⟩, hr⟩ := hl
      have hL : L ∈ X.fs := hs L (by unfold frs; rw [List.filterMap_cons, hf]; exact List.mem_cons_self)
      obtain ⟨sl, e⟩ := I.base.slot L o ho (I.ok.frf L hL) hL fun z => I.ok.exfs L z hL
      exact ⟨hk, ⟨L, _, hf, hn, e, hd⟩, ih (fun b hb => hs b (by unfold frs; rw [List.filterMap_cons, hf]; exact List.mem_cons_of_mem _ hb)) hr⟩
  exact all X.outer (fun _ hb => hb) I.ok.funs
theorem Inv.stack (I : Inv X pins σ H s) : s.heap.FunFrames X.base X.stack := by
  rcases I.ok.stk with e | ⟨e, hf⟩
  · rw [e]; exact I.funs
  · rw [e]
    obtain ⟨m, hn, _⟩ := I.loc
    refine .cons (by rw [I.ok.kind]; decide) hf hn ?_ I.funs
    exact Heap.get?_none_of_le (Nat.le_trans I.ok.bsz I.ok.above)
theorem Inv.stkSub (I : Inv X pins σ H s) : ∀ b ∈ frs X.stack, b ∈ X.env.locals :: X.fs := fun b hb => by
  rcases I.ok.stk with e | ⟨e, hf⟩
  · rw [e] at hb; exact List.mem_cons_of_mem _ hb
  · rw [e] at hb
    unfold frs at hb
    rw [List.filterMap_cons, hf] at hb
    exact hb
theorem Inv.stkFree (I : Inv X pins σ H s) : ∀ b ∈ frs X.stack, H b = none := fun b hb => by
  rcases List.mem_cons.mp (I.stkSub b hb) with e | hb
  · rw [e]; exact I.free
  · obtain ⟨_, o, ho, _⟩ := I.ok.funs.mem hb
    exact I.base.free b o ho (I.ok.frf b hb) fun z => I.ok.exfs b z hb
theorem Inv.step {g' : Array GenState} {t' : Nat} {d' : Drawn} {ch : List Addr} (I : Inv X pins σ H s)
    (hch : ∀ b ∈ ch, (b ∈ X.ex \/ X.s₀.heap.objs.size <= b) /\ b ≠ X.env.locals /\ (∀ x c, X.env.cells.lookup x = some c -> c ≠ b) /\ ∀ p ∈ X.pn ++ pins, p.1 ≠ b)
    (keep : ∀ b o, b ≠ X.env.locals -> b ∉ X.fs -> b ∉ ch -> s.heap.get? b = some o -> H b = none -> h'.get? b = some o)
    (slot : ∀ b o, b ≠ X.env.locals -> b ∈ X.fs -> b ∉ ch -> s.heap.get? b = some o -> H b = none -> ∃ sl, h'.get? b = some { o with slots := sl }) (free : ∀ b o, b ∉ ch -> s.heap.get? b = some o -> H b = none -> H' b = none)
    (there : ∀ b o, b ∉ ch -> s.heap.get? b = some o -> ∃ o', h'.get? b = some o')
    (tups : ∀ b xs, H b = some (.tup xs) -> H' b = some (.tup xs)) (frzs : ∀ b o u, H b = some (.frz o u) -> H' b = some (.frz o u)) (tbls : ∀ b ps, H b = some (.tbl ps) -> ∃ more, H' b = some (.tbl (ps ++ more)))
    (ns : ∀ m, s.heap.Ns X.env.locals m -> h'.Ns X.env.locals m) (hok : HOk X.prog X.w H' h') (hg : AllBare g') :
    Inv X pins σ H' { s with heap := h', gens := g', drawn := d', toks := t' } := by
  have neL : ∀ b o, X.s₀.heap.get? b = some o -> b ≠ X.env.locals := fun b o e => Nat.ne_of_lt (Nat.lt_of_lt_of_le (Heap.lt_size e) I.ok.above)
  have neC : ∀ b o, X.s₀.heap.get? b = some o -> b ∉ X.ex -> b ∉ ch := fun b o e hx hb => by
    rcases (hch b hb).1 with z | z
    · exact hx z
    · exact absurd (Nat.lt_of_lt_of_le (Heap.lt_size e) z) (Nat.lt_irrefl _)
  have cellK : ∀ x c, X.env.cells.lookup x = some c -> ∀ v, s.heap.IsCell c v -> h'.IsCell c v := fun x c e v ⟨o, ho, hd⟩ => by
    have nch : c ∉ ch := fun z => (hch c z).2.2.1 x c e rfl
    by_cases hc : c ∈ X.fs
    · obtain ⟨sl, q⟩ := slot c o (I.cne x c e) hc nch ho (I.freeC x c e)
      exact ⟨_, q, hd⟩
    · exact ⟨o, keep c o (I.cne x c e) hc nch ho (I.freeC x c e), hd⟩
  refine ⟨I.ok, I.os, hg, ⟨fun b o e n hb hx => ?_, fun b o e n hb hx => ?_, fun b o e n hx => ?_, fun b o e hx => ?_, fun b xs e => tups b xs (I.base.tups b xs e), fun b o xs e => frzs b o xs (I.base.frzs b o xs e), fun b ps e => ?_⟩, ?_, fun x c e => ?_, ?_, fun x c e => ?_, fun p hp => ?_, hok, I.len⟩
  · exact keep b o (neL b o e) hb (neC b o e hx) (I.base.keep b o e n hb hx) (I.base.free b o e n hx)
  · obtain ⟨sl, e1⟩ := I.base.slot b o e n hb hx
    obtain ⟨sl', e2⟩ := slot b _ (neL b o e) hb (neC b o e hx) e1 (I.base.free b o e n hx)
    exact ⟨sl', e2⟩
  · obtain ⟨o', e1⟩ := I.base.there b o e hx
    exact free b o' (neC b o e hx) e1 (I.base.free b o e n hx)
  · obtain ⟨o', e1⟩ := I.base.there b o e hx
    exact there b o' (neC b o e hx) e1
  · obtain ⟨m1, e1⟩ := I.base.tbls b ps e
    obtain ⟨m2, e2⟩ := tbls b _ e1
    exact ⟨m1 ++ m2, by rw [e2, Array.append_assoc]⟩
  · obtain ⟨m, hn, hl⟩ := I.loc
    refine ⟨m, ns m hn, fun i x v e1 e2 e3 => ?_⟩
    obtain ⟨u, r, l⟩ := hl i x v e1 e2 e3
    refine ⟨u, r, ?_⟩
    rcases l with l | ⟨k, c, e, z⟩
    · exact .inl l
    · exact .inr ⟨k, c, e, cellK x c e _ z⟩
  · obtain ⟨v, z⟩ := I.cell x c e
    exact ⟨v, cellK x c e v z⟩
  · obtain ⟨m, ⟨o, _, _, ho, _⟩, _⟩ := I.loc
    exact free _ o (fun z => (hch _ z).2.1 rfl) ho I.free
  · obtain ⟨v, o, ho, hd⟩ := I.cell x c e
    exact free c o (fun z => (hch c z).2.2.1 x c e rfl) ho (I.freeC x c e)
  · obtain ⟨e, n, ne, nf, d⟩ := I.pin p hp
    have nch : p.1 ∉ ch := fun z => (hch p.1 z).2.2.2 p hp rfl
    exact ⟨keep p.1 p.2 ne nf nch e n, free p.1 p.2 nch e n, ne, nf, d⟩
theorem Inv.un {t' : Nat} (I : Inv X pins σ H s) (u : Un X.fs [] H H' s.heap h') (hok : HOk X.prog X.w H' h') : Inv X pins σ H' { s with heap := h', toks := t' } := by
  obtain ⟨m, ⟨o, es, ep, ho, r⟩, _⟩ := id I.loc
  obtain ⟨sl, hL⟩ := u.any ho I.free (by simp)
  exact I.step (g' := s.gens) (d' := s.drawn) (ch := []) (fun _ z => nomatch z) (fun b o _ hb _ e n => u.keep b o e n hb (by simp)) (fun b o _ hb _ e n => u.slot b o e n hb (by simp)) (fun b o _ e n => u.free b o e n (by simp)) (fun b o _ e => u.there b o e (by simp)) u.tups u.frzs u.tbls (fun m' hm => by
    obtain ⟨o', es', ep', ho', r'⟩ := hm
    rw [ho] at ho'; cases ho'
    exact ⟨_, es', ep', hL, r'⟩) hok I.bare
theorem Inv.call {g' : Array GenState} {t' : Nat} {d' : Drawn} {ch : List Addr} (I : Inv X pins σ H s) (u : Un (frs X.stack) ch H H' s.heap h') (hok : HOk X.prog X.w H' h') (hg : AllBare g')
    (hch : ∀ b ∈ ch, (b ∈ X.ex \/ X.s₀.heap.objs.size <= b) /\ b ≠ X.env.locals /\ (∀ x c, X.env.cells.lookup x = some c -> c ≠ b) /\ ∀ p ∈ X.pn ++ pins, p.1 ≠ b) :
    Inv X pins σ H' { s with heap := h', gens := g', drawn := d', toks := t' } := by
  obtain ⟨m, ⟨o, es, ep, ho, r⟩, _⟩ := id I.loc
  obtain ⟨sl, hL⟩ := u.any ho I.free fun z => (hch _ z).2.1 rfl
  exact I.step (ch := ch) hch (fun b o hL hb hc e n => u.keep b o e n (fun z => (List.mem_cons.mp (I.stkSub b z)).elim hL hb) hc) (fun b o _ _ hc e n => u.any e n hc) (fun b o hc e n => u.free b o e n hc) (fun b o hc e => u.there b o e hc) u.tups u.frzs u.tbls (fun m' hm => by
    obtain ⟨o', es', ep', ho', r'⟩ := hm
    rw [ho] at ho'; cases ho'
    exact ⟨_, es', ep', hL, r'⟩) hok hg
theorem Inv.turned {t' : Nat} {it : Addr} (I : Inv X pins σ H s) (k : ∀ b o, b ≠ it -> s.heap.get? b = some o -> h'.get? b = some o) (hn : H it = none) (hL : it ≠ X.env.locals)
    (h1 : it ∈ X.ex \/ X.s₀.heap.objs.size <= it) (h2 : ∀ x c, X.env.cells.lookup x = some c -> c ≠ it) (h3 : ∀ p ∈ X.pn ++ pins, p.1 ≠ it) : Inv X pins σ H { s with heap := h', toks := t' } := by
  have nit : ∀ b u, H b = some u -> b ≠ it := fun b u e z => by rw [z, hn] at e; cases e
  refine I.step (g' := s.gens) (d' := s.drawn) (ch := [it]) (fun b hb => ?_) (fun b o _ _ hc e _ => k b o (fun z => hc (by simp [z])) e) (fun b o _ _ hc e _ => ⟨o.slots, k b o (fun z => hc (by simp [z])) e⟩) (fun _ _ _ _ n => n)
    (fun b o hc e => ⟨o, k b o (fun z => hc (by simp [z])) e⟩) (fun _ _ e => e) (fun _ _ _ e => e) (fun b ps e => ⟨#[], by rw [e]; simp⟩) (fun m hm => ?_) (fun b u e => ?_) I.bare
  · have e : b = it := by simpa using hb
    subst e
    exact ⟨h1, hL, h2, h3⟩
  · obtain ⟨o, es, ep, ho, r⟩ := hm
    exact ⟨o, es, ep, k _ o (Ne.symm hL) ho, r⟩
  · refine (I.hok b u e).stay (fun c v hc q => k c v ?_ q) (fun _ q => q) fun _ _ q => q
    rcases hc with z | z
    · rw [z]; exact nit b u e
    · exact nit c _ z
theorem Inv.tok (I : Inv X pins σ H s) (t : Nat) : Inv X pins σ H { s with toks := t } := I.un (h' := s.heap) (t' := t) Un.refl I.hok
theorem Inv.kept {t' : Nat} (I : Inv X pins σ H s) (k : ∀ b u, s.heap.get? b = some u -> h'.get? b = some u) : Inv X pins σ H { s with heap := h', toks := t' } := I.un (Un.kept k) (I.hok.kept k)
theorem Inv.laid {a : Addr} {o : HO} {t' : Nat} (I : Inv X pins σ H s) (k : ∀ b u, s.heap.get? b = some u -> h'.get? b = some u) (hp : s.heap.objs.size <= a) (new : ObjOk X.prog X.w (upd H a o) h' a o) :
    Inv X pins σ (upd H a o) { s with heap := h', toks := t' } := I.un (Un.laid k hp (I.hok.fresh hp)) (I.hok.laid k hp new)
theorem Inv.write {x e : Addr} {o : HO} {t' : Nat} (I : Inv X pins σ H s) (mu : Mut (H x)) (he : e = x \/ H e = some (.own x)) (k : ∀ b u, b ≠ e -> s.heap.get? b = some u -> h'.get? b = some u) (heo : ∃ u, h'.get? e = some u)
    (new : ObjOk X.prog X.w (upd H x o) h' x o) : Inv X pins σ (upd H x o) { s with heap := h', toks := t' } := I.un (Un.write mu he k heo) (I.hok.write mu he k heo new)
theorem Inv.pins_of {pins' : List (Addr × Obj)} (I : Inv X pins σ H s) (h : ∀ p ∈ pins', s.heap.get? p.1 = some p.2 /\ H p.1 = none /\ p.1 ≠ X.env.locals /\ p.1 ∉ X.fs /\ ∀ v, p.2.data ≠ .cell v) : Inv X pins' σ H s :=
  ⟨I.ok, I.os, I.bare, I.base, I.loc, I.cell, I.free, I.freeC, fun p hp => (List.mem_append.mp hp).elim (fun z => I.pin p (List.mem_append_left _ z)) (h p), I.hok, I.len⟩
theorem nodup_ix {N : List Str} (hN : N.Nodup) {i j : Nat} {x : Str} (a : N[i]? = some x) (b : N[j]? = some x) : i = j := by
  obtain ⟨h1, e1⟩ := List.getElem?_eq_some_iff.mp a
  obtain ⟨h2, e2⟩ := List.getElem?_eq_some_iff.mp b
  exact (List.getElem_inj hN).mp (e1.trans e2.symm)
theorem store_ok2 {M : Model} {A : Around} {E : Value -> Shared -> Prop} {i : Nat} {x : Str} {v : V} {u : Value} {Q : Unit -> Shared -> Prop} (I : Inv X pins σ H s) (hN : X.N.Nodup) (hi : X.N[i]? = some x) (hx : Loc X.env.scope x) (r : RelV v u)
    (h : ∀ s', Inv X pins (σ.set i (some v)) H s' -> (∃ a, Heap.SameBut a s.heap s'.heap /\ (a = X.env.locals \/ X.env.cells.lookup x = some a)) -> Q () s') (hf : X.fn x = true \/ X.env.scope.names.lookup x = some .local := by first | exact .inl rfl | exact .inr rfl | assumption) : wpAny M A (storeName X.env x u) Q E s := by
  obtain ⟨m, hn, hl⟩ := id I.loc
  have hcls : (X.env.scope.kind == .class || (X.env.scope.kind == .module && X.env.locals != X.env.globals)) = false := by rw [I.ok.kind]; rfl
  have hiσ : i < σ.length := by rw [I.len]; exact (List.getElem?_eq_some_iff.mp hi).1
  have cne := I.cne
  have tracked : ∀ {a : Addr} {h' : Heap}, (∃ o, s.heap.get? a = some o /\ H a = none) -> Heap.SameBut a s.heap h' -> HOk X.prog X.w H h' := fun {a h'} ha hs b ob e => by
    obtain ⟨_, _, hfree⟩ := ha
    refine (I.hok b ob e).stay (fun c w' hc q => (hs.2 c ?_).trans q) (fun _ q => q) fun _ _ q => q
    rintro rfl
    rcases hc with rfl | hc
    · rw [hfree] at e; cases e
    · rw [hfree] at hc; cases hc
  rcases hx with hk | hk
  · refine wpAny_storeName_local hk hn (fun h' hn' hs => ?_) hcls
    obtain ⟨oL, _, _, hoL, _⟩ := id hn
    refine h _ ⟨I.ok, I.os, I.bare, ⟨fun b o e n hb hx => ?_, fun b o e n hb hx => ?_, I.base.free, fun b o e hx => ?_, I.base.tups, I.base.frzs, I.base.tbls⟩, ⟨_, hn', fun j y v' e1 e2 e3 => ?_⟩, fun y c e => ?_, I.free, I.freeC, fun p hp => ?_, tracked ⟨oL, hoL, I.free⟩ hs, by simpa using I.len⟩ ⟨_, hs, .inl rfl⟩
    · exact (hs.2 b (Nat.ne_of_lt (Nat.lt_of_lt_of_le (Heap.lt_size e) I.ok.above))).trans (I.base.keep b o e n hb hx)
    · obtain ⟨sl, e1⟩ := I.base.slot b o e n hb hx
      exact ⟨sl, (hs.2 b (Nat.ne_of_lt (Nat.lt_of_lt_of_le (Heap.lt_size e) I.ok.above))).trans e1⟩
    · obtain ⟨o', e1⟩ := I.base.there b o e hx
      exact ⟨o', (hs.2 b (Nat.ne_of_lt (Nat.lt_of_lt_of_le (Heap.lt_size e) I.ok.above))).trans e1⟩
    · by_cases hj : j = i
      · subst hj
        rw [hi] at e1; cases e1
        rw [List.getElem?_set_self hiσ] at e2
        cases e2
        exact ⟨u, r, .inl ⟨hk, by simp⟩⟩
      · rw [List.getElem?_set_ne (Ne.symm hj)] at e2
        obtain ⟨u', r', q⟩ := hl j y v' e1 e2 e3
        refine ⟨u', r', ?_⟩
        rcases q with ⟨k, e⟩ | ⟨k, c, e, z⟩
        · refine .inl ⟨k, ?_⟩
          have : y ≠ x := fun e => hj (nodup_ix hN e1 (e ▸ hi))
          simp [this, e]
        · exact .inr ⟨k, c, e, z.sameBut hs (cne y c e)⟩
    · obtain ⟨w', z⟩ := I.cell y c e
      exact ⟨w', z.sameBut hs (cne y c e)⟩
    · obtain ⟨e, n, ne, nf, d⟩ := I.pin p hp
      exact ⟨(hs.2 p.1 ne).trans e, n, ne, nf, d⟩
  · have hfn : X.fn x = true := by
      rcases hf with z | z
      · exact z
      · rw [z] at hk; cases hk
    obtain ⟨c, hc⟩ := I.ok.has x (.inl hk)
    obtain ⟨w', z⟩ := I.cell x c hc
    refine wpAny_storeName_cell I.ok.kind hk hc z (fun h' hc' hs => ?_)
    obtain ⟨oc, hoc, hocd⟩ := id z
    refine h { s with heap := h' } ⟨I.ok, I.os, I.bare, ⟨fun b o e n hb hx => ?_, fun b o e n hb hx => ?_, I.base.free, fun b o e hx => ?_, I.base.tups, I.base.frzs, I.base.tbls⟩, ⟨m, hn.sameBut hs (Ne.symm (cne x c hc)), fun j y v' e1 e2 e3 => ?_⟩, fun y c' e => ?_, I.free, I.freeC, fun p hp => ?_, tracked ⟨oc, hoc, I.freeC x c hc⟩ hs, by simpa using I.len⟩ ⟨c, hs, .inr hc⟩
    · exact (hs.2 b (Nat.ne_of_lt (Nat.lt_of_lt_of_le (Heap.lt_size e) (I.ok.cab x c hfn hc)))).trans (I.base.keep b o e n hb hx)
    · obtain ⟨sl, e1⟩ := I.base.slot b o e n hb hx
      exact ⟨sl, (hs.2 b (Nat.ne_of_lt (Nat.lt_of_lt_of_le (Heap.lt_size e) (I.ok.cab x c hfn hc)))).trans e1⟩
    · obtain ⟨o', e1⟩ := I.base.there b o e hx
      exact ⟨o', (hs.2 b (Nat.ne_of_lt (Nat.lt_of_lt_of_le (Heap.lt_size e) (I.ok.cab x c hfn hc)))).trans e1⟩
    · by_cases hj : j = i
      · subst hj
        rw [hi] at e1; cases e1
        rw [List.getElem?_set_self hiσ] at e2
        cases e2
        exact ⟨u, r, .inr ⟨.inl hk, c, hc, hc'⟩⟩
      · rw [List.getElem?_set_ne (Ne.symm hj)] at e2
        obtain ⟨u', r', q⟩ := hl j y v' e1 e2 e3
        refine ⟨u', r', ?_⟩
        rcases q with q | ⟨k, c', e, z'⟩
        · exact .inl q
        · refine .inr ⟨k, c', e, z'.sameBut hs ?_⟩
          rintro rfl
          exact hj (nodup_ix hN e1 (I.ok.inj _ _ _ e hc ▸ hi))
    · by_cases hcc : c' = c
      · subst hcc; exact ⟨_, hc'⟩
      · obtain ⟨w2, z2⟩ := I.cell y c' e
        exact ⟨w2, z2.sameBut hs hcc⟩
    · obtain ⟨e, n, ne, nf, d⟩ := I.pin p hp
      refine ⟨(hs.2 p.1 ?_).trans e, n, ne, nf, d⟩
      intro q
      rw [q, hoc] at e
      have q' : oc = p.2 := Option.some.inj e
      exact d w' (by rw [<- q']; exact hocd)
theorem store_ok {M : Model} {A : Around} {E : Value -> Shared -> Prop} {i : Nat} {x : Str} {v : V} {u : Value} {Q : Unit -> Shared -> Prop} (I : Inv X pins σ H s) (hN : X.N.Nodup) (hi : X.N[i]? = some x) (hx : Loc X.env.scope x) (r : RelV v u)
    (h : ∀ s', Inv X pins (σ.set i (some v)) H s' -> Q () s') (hf : X.fn x = true \/ X.env.scope.names.lookup x = some .local := by first | exact .inl rfl | exact .inr rfl | assumption) : wpAny M A (storeName X.env x u) Q E s :=
  store_ok2 I hN hi hx r (fun s' I' _ => h s' I') hf
theorem Inv.call' {s' : Shared} {ch : List Addr} (I : Inv X pins σ H s) (ho : s'.os = s.os) (u : Un (frs X.stack) ch H H' s.heap s'.heap) (hok : HOk X.prog X.w H' s'.heap) (hg : AllBare s'.gens)
    (hch : ∀ b ∈ ch, (b ∈ X.ex \/ X.s₀.heap.objs.size <= b) /\ b ≠ X.env.locals /\ (∀ x c, X.env.cells.lookup x = some c -> c ≠ b) /\ ∀ p ∈ X.pn ++ pins, p.1 ≠ b) : Inv X pins σ H' s' := by
  obtain ⟨h', g', d', t', o'⟩ := s'
  have e : o' = s.os := ho
  subst e
  exact I.call (g' := g') (t' := t') (d' := d') u hok hg hch
end
abbrev XK := Value -> Option Addr -> Hp -> Prop
abbrev St := List (Option V)
abbrev VK := V -> Hp -> Prop
abbrev TE := St -> Hp -> VK -> Prop
abbrev TT := St -> Hp -> (Bool -> Hp -> Prop) -> Prop
abbrev TA := St -> Hp -> (List V -> Hp -> Prop) -> Prop
structure Ends where
  nx : St -> Hp -> Prop
  rt : VK
  bk : St -> Hp -> Prop := fun _ _ => False
  ct : St -> Hp -> Prop := fun _ _ => False
abbrev TS := Ends -> St -> Hp -> Prop
def EP (X : Cx) (pins : List (Addr × Obj)) (σ : St) (Q : VK) (u : Value) (s' : Shared) : Prop := ∃ v H', Inv X pins σ H' s' /\ RelV v u /\ Q v H'
def TP (X : Cx) (pins : List (Addr × Obj)) (σ : St) (Q : Bool -> Hp -> Prop) (b : Bool) (s' : Shared) : Prop := ∃ H', Inv X pins σ H' s' /\ Q b H'
def AP (X : Cx) (pins : List (Addr × Obj)) (σ : St) (Q : List V -> Hp -> Prop) (us : List Value) (s' : Shared) : Prop := ∃ vs H', Inv X pins σ H' s' /\ Vals vs us /\ Q vs H'
def SP (X : Cx) (pins : List (Addr × Obj)) (D : Ends) (f : Flow) (s' : Shared) : Prop :=
  match f with
  | .next => ∃ σ' H', Inv X pins σ' H' s' /\ D.nx σ' H'
  | .brk => ∃ σ' H', Inv X pins σ' H' s' /\ D.bk σ' H'
  | .cont => ∃ σ' H', Inv X pins σ' H' s' /\ D.ct σ' H'
  | .ret u => ∃ v σ' H', Inv X pins σ' H' s' /\ RelV v u /\ D.rt v H'
def PE (X : Cx) (e : Expr) (t : TE) : Prop :=
  ∀ (pins : List (Addr × Obj)) (s : Shared) (σ : St) (H : Hp) (Q : VK), Inv X pins σ H s -> t σ H Q -> wpAny (model X.prog X.w) X.A (eval e X.env) (EP X pins σ Q) X.xe s
def PT (X : Cx) (e : Expr) (t : TT) : Prop :=
  ∀ (pins : List (Addr × Obj)) (s : Shared) (σ : St) (H : Hp) (Q : Bool -> Hp -> Prop), Inv X pins σ H s -> t σ H Q -> wpAny (model X.prog X.w) X.A (isTrue e X.env (eval e X.env)) (TP X pins σ Q) X.xe s
def PW (X : Cx) (e : Expr) (t : TT) : Prop :=
  ∀ (whole : Sem Value) (pins : List (Addr × Obj)) (s : Shared) (σ : St) (H : Hp) (Q : Bool -> Hp -> Prop), Inv X pins σ H s -> t σ H Q -> wpAny (model X.prog X.w) X.A (isTrue e X.env whole) (TP X pins σ Q) X.xe s
theorem PW.pt {X : Cx} {e : Expr} {t : TT} (h : PW X e t) : PT X e t := h _
def PA (X : Cx) (es : List Expr) (t : TA) : Prop :=
  ∀ (pos : Pos) (pins : List (Addr × Obj)) (s : Shared) (σ : St) (H : Hp) (Q : List V -> Hp -> Prop), Inv X pins σ H s -> t σ H Q -> wpAny (model X.prog X.w) X.A (spliced (backTo pos (starEach es X.env))) (AP X pins σ Q) X.xe s
def PS (X : Cx) (st : Stmt) (t : TS) : Prop :=
  ∀ (pins : List (Addr × Obj)) (s : Shared) (σ : St) (H : Hp) (D : Ends), Inv X pins σ H s -> t D σ H -> wpAny (model X.prog X.w) X.A (exec st X.env) (SP X pins D) X.xe s
def PSs (X : Cx) (st : List Stmt) (t : TS) : Prop :=
  ∀ (pins : List (Addr × Obj)) (s : Shared) (σ : St) (H : Hp) (D : Ends), Inv X pins σ H s -> t D σ H -> wpAny (model X.prog X.w) X.A (execs st X.env) (SP X pins D) X.xe s
theorem thn {α : Type} {t : Sem α} {Q Q' : α -> Shared -> Prop} {M : Model} {A : Around} {E : Value -> Shared -> Prop} {s : Shared} (h : wpAny M A t Q E s) (hQ : ∀ a s, Q a s -> Q' a s) : wpAny M A t Q' E s := wpAny_mono h hQ fun _ _ x => x
section
variable {X : Cx}
def tVar (i : Nat) : TE := fun σ H Q => ∃ v, σ[i]? = some (some v) /\ Q v H
def tC (v : V) : TE := fun _ H Q => Q v H
theorem pe_var {i : Nat} {x : Str} {pos : Pos} (hN : X.N[i]? = some x) (hv : Vis X.env.scope x) (hd : (x == ("__debug__" : Str)) = false := by decide) (hcd : (x == ("__classdict__" : Str)) = false := by decide) : PE X (.Name x pos) (tVar i) := by
  intro pins s σ H Q I h
  obtain ⟨v, e, h⟩ := h
  obtain ⟨m, hn, hl⟩ := I.loc
  obtain ⟨u, r, l⟩ := hl i x v hN e hv
  have fin : EP X pins σ Q u s := ⟨v, H, I, r, h⟩
  rcases l with ⟨hk, hm⟩ | ⟨hk, c, hc, hcell⟩
  · exact wpAny_Name (wpAny_loadName_local I.ok.kind hk hn hm fin) hd
  · rcases hk with hk | hk
    · exact wpAny_Name (wpAny_loadName_cell I.ok.kind hk hc hcell fin) hd
    · exact wpAny_Name (wpAny_loadName_free I.ok.kind hk hc hcell fin hcd) hd
theorem pe_int {i j pos} : PE X (.Constant (.int i) j pos) (tC (.int i)) := fun _ _ _ H _ I h => wpAny_Constant_int ⟨.int i, H, I.tok _, ⟨_, rfl⟩, h⟩
theorem pe_bl {b j pos} : PE X (.Constant (.bool b) j pos) (tC (.bl b)) := fun _ _ _ H _ I h => Constant_bool ⟨.bl b, H, I, rfl, h⟩
theorem pe_non {j pos} : PE X (.Constant .none j pos) (tC .non) := fun _ _ _ H _ I h => Constant_none ⟨.non, H, I, rfl, h⟩
theorem pe_str {x j pos} : PE X (.Constant (.str x) j pos) (tC (.str x)) := fun _ _ _ H _ I h => Calls.Constant_str ⟨.str x, H, I.tok _, ⟨_, rfl⟩, h⟩
def Gl (X : Cx) (x : Str) : Prop := X.env.kindOf x = some .globalImplicit
theorem ld_glob {E : Value -> Shared -> Prop} {pins : List (Addr × Obj)} {s : Shared} {σ : St} {H : Hp} {x : Str} {u : Value} {pos : Pos} {Q : Value -> Shared -> Prop} (I : Inv X pins σ H s) (hg : Gl X x) (hm : X.mg x = some u) (h : Q u s)
    (hd : (x == ("__debug__" : Str)) = false := by decide) : wpAny (model X.prog X.w) X.A (eval (.Name x pos) X.env) Q E s :=
  Calls.Name_function_global I.ok.kind hg (Calls.loadGlobal_global (by rw [I.ok.glob]; exact I.mod.glob.keeps I.bk) hm h) hd
theorem ld_blt {E : Value -> Shared -> Prop} {pins : List (Addr × Obj)} {s : Shared} {σ : St} {H : Hp} {x : Str} {u : Value} {pos : Pos} {Q : Value -> Shared -> Prop} (I : Inv X pins σ H s) (hg : Gl X x) (hm : X.mg x = none) (hv : bootBuiltins x = some u) (h : Q u s)
    (hn : x ≠ "__name__" := by decide) (hd : (x == ("__debug__" : Str)) = false := by decide) : wpAny (model X.prog X.w) X.A (eval (.Name x pos) X.env) Q E s := by
  obtain ⟨mb, h1, h2⟩ := I.mod.blt
  exact Calls.Name_function_global I.ok.kind hg (Calls.loadGlobal_builtin (by rw [I.ok.glob]; exact I.mod.glob.keeps I.bk) hm (by rw [I.ok.blt]; exact h1.keeps I.bk) ((h2 x hn).trans hv) h) hd
theorem pe_glob {x : Str} {v : V} {u : Value} {pos : Pos} (hg : Gl X x) (hm : X.mg x = some u) (r : RelV v u) (hd : (x == ("__debug__" : Str)) = false := by decide) : PE X (.Name x pos) (tC v) :=
  fun _ _ _ H _ I h => ld_glob I hg hm ⟨v, H, I, r, h⟩ hd
theorem pe_bltn {x : Str} {v : V} {u : Value} {pos : Pos} (hg : Gl X x) (hm : X.mg x = none) (hv : bootBuiltins x = some u) (r : RelV v u) (hn : x ≠ "__name__" := by decide) (hd : (x == ("__debug__" : Str)) = false := by decide) : PE X (.Name x pos) (tC v) :=
  fun _ _ _ H _ I h => ld_blt I hg hm hv ⟨v, H, I, r, h⟩ hn hd
variable {a b : Expr} {ta tb : TE} {pos : Pos}
def PC (X : Cx) (op : CmpOp) (a b : Expr) (t : TE) : Prop :=
  ∀ (pins : List (Addr × Obj)) (s : Shared) (σ : St) (H : Hp) (Q : VK), Inv X pins σ H s -> t σ H Q ->
    wpAny (model X.prog X.w) X.A (eval a X.env) (fun v s₁ => wpAny (model X.prog X.w) X.A (eval b X.env) (fun u s₂ => wpAny (model X.prog X.w) X.A (compareOp op v u) (EP X pins σ Q) X.xe s₂) X.xe s₁) X.xe s
def tB (t : TE) : TT := fun σ H Q => t σ H fun x H1 => ∃ c, x = .bl c /\ Q c H1
theorem pt_cmp {op : CmpOp} {t : TE} (h : PC X op a b t) (h1 : behindInMarks op b = false := by first | exact nobehind _ (by decide) (by decide) | rfl) : PT X (.Compare a [op] [b] pos) (tB t) := by
  intro pins s σ H Q I hw
  refine wpAny_isTrue_Compare1 (thn (h pins s σ H _ I hw) fun v s1 h1 => thn h1 fun u s2 h2 => thn h2 fun c s3 ⟨x, H1, I1, r1, q1⟩ => ?_) h1
  obtain ⟨d, rfl, q⟩ := q1
  cases r1
  exact wpAny_truthy_bool ⟨H1, I1, q⟩
theorem pt_val {e : Expr} {t : TE} (h : PE X e t) (he : ∀ whole, isTrue e X.env whole = (do let v <- whole; standAt e.pos; holding [v] (truthy v)) := by intro _; rfl) : PT X e (tB t) := by
  intro pins s σ H Q I hw
  refine isTrue_plain (thn (h pins s σ H _ I hw) fun v s1 ⟨x, H1, I1, r1, q1⟩ => ?_) (he _)
  obtain ⟨d, rfl, q⟩ := q1
  cases r1
  exact wpAny_truthy_bool ⟨H1, I1, q⟩
variable {tA tB' : TT} {rest : List Expr}
def tAnd (t u : TT) : TT := fun σ H Q => t σ H fun c H1 => if c = true then u σ H1 Q else Q false H1
def tOr (t u : TT) : TT := fun σ H Q => t σ H fun c H1 => if c = true then Q true H1 else u σ H1 Q
def tNot (t : TT) : TT := fun σ H Q => t σ H fun c H1 => Q (!c) H1
theorem pw_and1 (ha : PT X a tA) : PW X (.BoolOp .And [a] pos) tA := by
  intro wh pins s σ H Q I h
  refine isTrue_and (thn (ha pins s σ H Q I h) fun c s1 e => ?_)
  cases c with
  | true => exact isTrue_and_nil e
  | false => exact e
theorem pw_or1 (ha : PT X a tA) : PW X (.BoolOp .Or [a] pos) tA := by
  intro wh pins s σ H Q I h
  refine isTrue_or (thn (ha pins s σ H Q I h) fun c s1 e => ?_)
  cases c with
  | false => exact isTrue_or_nil e
  | true => exact e
theorem pw_and (ha : PT X a tA) (hb : PW X (.BoolOp .And (b :: rest) pos) tB') : PW X (.BoolOp .And (a :: b :: rest) pos) (tAnd tA tB') := by
  intro wh pins s σ H Q I h
  refine isTrue_and (thn (ha pins s σ H _ I h) fun c s1 ⟨H1, I1, q1⟩ => ?_)
  cases c with
  | true => exact hb wh pins s1 σ H1 Q I1 q1
  | false => exact ⟨H1, I1, q1⟩
theorem pw_or (ha : PT X a tA) (hb : PW X (.BoolOp .Or (b :: rest) pos) tB') : PW X (.BoolOp .Or (a :: b :: rest) pos) (tOr tA tB') := by
  intro wh pins s σ H Q I h
  refine isTrue_or (thn (ha pins s σ H _ I h) fun c s1 ⟨H1, I1, q1⟩ => ?_)
  cases c with
  | true => exact ⟨H1, I1, q1⟩
  | false => exact hb wh pins s1 σ H1 Q I1 q1
theorem pt_not (ha : PT X a tA) : PT X (.UnaryOp .Not a pos) (tNot tA) := by
  intro pins s σ H Q I h
  exact isTrue_not (ha pins s σ H (fun c H1 => Q (!c) H1) I h)
def tAndV (ta tb : TE) : TE := fun σ H Q => ta σ H fun x H1 => ∃ c, x = .bl c /\ if c = true then tb σ H1 Q else Q (.bl false) H1
def tNotV (ta : TE) : TE := fun σ H Q => ta σ H fun x H1 => ∃ c, x = .bl c /\ Q (.bl (!c)) H1
theorem pe_one {op} {t : TE} (h : PE X a t) : PE X (.BoolOp op [a] pos) t := fun pins s σ H Q I hw => BoolOp_one (h pins s σ H Q I hw)
theorem pe_and (ha : PE X a ta) (hb : PE X (.BoolOp .And (b :: rest) pos) tb) : PE X (.BoolOp .And (a :: b :: rest) pos) (tAndV ta tb) := by
  intro pins s σ H Q I h
  refine BoolOp_and (thn (ha pins s σ H _ I h) fun v s1 ⟨x, H1, I1, r1, q1⟩ => ?_)
  obtain ⟨c, rfl, q1⟩ := q1
  cases r1
  refine wpAny_truthy_bool ?_
  cases c with
  | true => exact hb pins s1 σ H1 Q I1 q1
  | false => exact ⟨.bl false, H1, I1, rfl, q1⟩
theorem pe_not (ha : PE X a ta) : PE X (.UnaryOp .Not a pos) (tNotV ta) := by
  intro pins s σ H Q I h
  refine UnaryOp_ (thn (ha pins s σ H _ I h) fun v s1 ⟨x, H1, I1, r1, q1⟩ => ?_)
  obtain ⟨c, rfl, q1⟩ := q1
  cases r1
  exact not_of (wpAny_truthy_bool ⟨.bl (!c), H1, I1, rfl, q1⟩)
def tIf (t : TT) (ta tb : TE) : TE := fun σ H Q => t σ H fun c H1 => if c = true then ta σ H1 Q else tb σ H1 Q
theorem pe_ifExp {c : Expr} (hc : PT X c tA) (ha : PE X a ta) (hb : PE X b tb) : PE X (.IfExp c a b pos) (tIf tA ta tb) := by
  intro pins s σ H Q I h
  refine wpAny_IfExp (thn (hc pins s σ H _ I h) fun d s1 ⟨H1, I1, q1⟩ => ?_)
  cases d with
  | true => exact ha pins s1 σ H1 Q I1 q1
  | false => exact hb pins s1 σ H1 Q I1 q1
end
def SqL (K : PySem.W.Frag) (H : Hp) (a : Addr) (xs : List V) : Prop :=
  Rd H a (.lst xs) \/
    ∃ (o : Obj) (its : Array Value) (n : Nat), K.lookup a = some o /\ o.cls = .type "list" /\ o.dict = none /\ o.data = .seq its n /\ its.size <= sizeLine /\ Vals xs its.toList
def SqT (K : PySem.W.Frag) (H : Hp) (a : Addr) (xs : List V) : Prop :=
  Rd H a (.tup xs) \/
    ∃ (o : Obj) (its : Array Value) (n : Nat), K.lookup a = some o /\ o.cls = .type "tuple" /\ o.data = .seq its n /\ its.size <= sizeLine /\ Vals xs its.toList
def absV : Value -> Option V
  | .none => some .non
  | .bool b => some (.bl b)
  | .int i _ => some (.int i)
  | .str x _ => some (.str x)
  | .bytes b _ => some (.byt b)
  | .float b _ => some (.flt b)
  | .ref a => some (.ref a)
  | .type n => some (.ty n)
  | _ => none
theorem RelV.abs {x : V} {u : Value} (r : RelV x u) : absV u = some x := by
  cases x with
  | non => cases r; rfl
  | bl _ => cases r; rfl
  | int _ => obtain ⟨t, rfl⟩ := r; rfl
  | str _ => obtain ⟨t, rfl⟩ := r; rfl
  | byt _ => obtain ⟨t, rfl⟩ := r; rfl
  | flt _ => obtain ⟨t, rfl⟩ := r; rfl
  | ref _ => cases r; rfl
  | ty _ => cases r; rfl
theorem RelV.inj {x y : V} {u : Value} (r : RelV x u) (q : RelV y u) : x = y := Option.some.inj (r.abs.symm.trans q.abs)
theorem Vals.inj : ∀ {xs ys : List V} {us : List Value}, Vals xs us -> Vals ys us -> xs = ys
  | _, _, _, .nil, .nil => rfl
  | _, _, _, .cons r t, .cons r' t' => by rw [r.inj r', Vals.inj t t']
section
variable {X : Cx} {pins : List (Addr × Obj)} {σ : St} {H : Hp} {s : Shared} {a : Addr} {xs ys : List V}
theorem SqL.of {K : PySem.W.Frag} (h : H a = some (.lst xs)) : SqL K H a xs := .inl (.inl h)
theorem SqT.of {K : PySem.W.Frag} (h : H a = some (.tup xs)) : SqT K H a xs := .inl (.inl h)
theorem Inv.list (I : Inv X pins σ H s) (h : SqL X.K H a xs) : ∃ its : List Value, Vals xs its /\ PlainL s.heap a its.toArray /\ xs.length <= sizeLine := by
  rcases h with h | ⟨o, its, n, hk, hc, hd, hs, hz, r⟩
  · obtain ⟨z, its, n, r, e⟩ := h.ok I.hok
    exact ⟨its, r, ⟨_, n, e, rfl, rfl, rfl⟩, z⟩
  · refine ⟨its.toList, r, ⟨o, n, I.kIn a o hk, hc, hd, by simpa using hs⟩, ?_⟩
    have e := r.length
    simp only [Array.length_toList] at e
    lia
theorem Inv.tuple (I : Inv X pins σ H s) (h : SqT X.K H a xs) : ∃ its : List Value, Vals xs its /\ IsTup s.heap a its.toArray /\ xs.length <= sizeLine := by
  rcases h with h | ⟨o, its, n, hk, hc, hs, hz, r⟩
  · obtain ⟨z, its, r, p⟩ := h.ok I.hok
    exact ⟨its, r, p, z⟩
  · refine ⟨its.toList, r, ⟨o, I.kIn a o hk, hc, n, by simpa using hs⟩, ?_⟩
    have e := r.length
    simp only [Array.length_toList] at e
    lia
theorem Inv.list_inj (I : Inv X pins σ H s) (h : SqL X.K H a xs) (h' : SqL X.K H a ys) : xs = ys := by
  obtain ⟨its, r, ⟨o, n, e, _, _, d⟩, _⟩ := I.list h
  obtain ⟨its', r', ⟨o', n', e', _, _, d'⟩, _⟩ := I.list h'
  rw [e] at e'; cases e'
  rw [d] at d'
  injection d' with d1 _
  have : its = its' := by simpa using congrArg Array.toList d1
  subst this
  exact r.inj r'
theorem Inv.tuple_inj (I : Inv X pins σ H s) (h : SqT X.K H a xs) (h' : SqT X.K H a ys) : xs = ys := by
  obtain ⟨its, r, ⟨o, e, _, n, d⟩, _⟩ := I.tuple h
  obtain ⟨its', r', ⟨o', e', _, n', d'⟩, _⟩ := I.tuple h'
  rw [e] at e'; cases e'
  rw [d] at d'
  injection d' with d1 _
  have : its = its' := by simpa using congrArg Array.toList d1
  subst this
  exact r.inj r'
end
abbrev Cx.wish (X : Cx) (E : Value -> Shared -> Prop) : Cx := { X with xe := E }
abbrev Cx.nox (X : Cx) : Cx := X.wish fun _ _ => False
theorem Cx.Ok.wish {X : Cx} (ok : X.Ok) (E : Value -> Shared -> Prop) : (X.wish E).Ok :=
  ⟨ok.mod, ok.kind, ok.glob, ok.blt, ok.above, ok.inj, ok.has, ok.cab, ok.hd, ok.frames, ok.stk, ok.exf, ok.bs, ok.bsz, ok.noex, ok.exfs, ok.funs, ok.frf⟩
theorem Cx.Ok.unwish {X : Cx} {E : Value -> Shared -> Prop} (ok : (X.wish E).Ok) : X.Ok :=
  ⟨ok.mod, ok.kind, ok.glob, ok.blt, ok.above, ok.inj, ok.has, ok.cab, ok.hd, ok.frames, ok.stk, ok.exf, ok.bs, ok.bsz, ok.noex, ok.exfs, ok.funs, ok.frf⟩
section
variable {X : Cx} {pins : List (Addr × Obj)} {σ : St} {H : Hp} {s : Shared} {E : Value -> Shared -> Prop}
theorem Inv.wish (I : Inv X pins σ H s) (E : Value -> Shared -> Prop) : Inv (X.wish E) pins σ H s := ⟨I.ok.wish E, I.os, I.bare, I.base, I.loc, I.cell, I.free, I.freeC, I.pin, I.hok, I.len⟩
theorem Inv.unwish (I : Inv (X.wish E) pins σ H s) : Inv X pins σ H s := ⟨I.ok.unwish, I.os, I.bare, I.base, I.loc, I.cell, I.free, I.freeC, I.pin, I.hok, I.len⟩
theorem SP.unwish {D : Ends} {f : Flow} {s' : Shared} (h : SP (X.wish E) pins D f s') : SP X pins D f s' := by
  cases f with
  | next => obtain ⟨σ', H', I, q⟩ := h; exact ⟨σ', H', I.unwish, q⟩
  | brk => obtain ⟨σ', H', I, q⟩ := h; exact ⟨σ', H', I.unwish, q⟩
  | cont => obtain ⟨σ', H', I, q⟩ := h; exact ⟨σ', H', I.unwish, q⟩
  | ret u => obtain ⟨v, σ', H', I, r, q⟩ := h; exact ⟨v, σ', H', I.unwish, r, q⟩
theorem PSs.nox {st : List Stmt} {t : TS} (h : PSs X.nox st t) : PSs X st t := fun pins s σ H D I hw =>
  wpAny_mono (h pins s σ H D (I.wish _) hw) (fun _ _ q => q.unwish) fun _ _ z => False.elim z
end
section
variable {X : Cx} {st : Stmt} {rest : List Stmt} {t u : TS} {e : Expr} {te : TE} {pos : Pos}
def tNext : TS := fun D σ H => D.nx σ H
def tSeq (t u : TS) : TS := fun D σ H => t { D with nx := u D } σ H
theorem pss_nil : PSs X [] tNext := fun _ _ σ H _ I h => wpAny_execs_nil ⟨σ, H, I, h⟩
theorem pss_cons (h1 : PS X st t) (h2 : PSs X rest u) : PSs X (st :: rest) (tSeq t u) := by
  intro pins s σ H D I h
  refine wpAny_execs_cons (thn (h1 pins s σ H { D with nx := u D } I h) fun f s1 q => ?_)
  cases f with
  | next =>
    obtain ⟨σ', H', I', q⟩ := q
    exact h2 pins s1 σ' H' D I' q
  | ret v => exact q
  | brk => exact q
  | cont => exact q
theorem pss_one (h1 : PS X st t) : PSs X [st] t := by
  intro pins s σ H D I h
  refine wpAny_execs_cons (thn (h1 pins s σ H D I h) fun f s1 q => ?_)
  cases f with
  | next => exact wpAny_execs_nil q
  | ret v => exact q
  | brk => exact q
  | cont => exact q
theorem Inv.quiet {pins : List (Addr × Obj)} {σ : St} {H : Hp} {s : Shared} (I : Inv X pins σ H s) : interactive X.env = false := by simp [interactive, I.ok.kind]
def tDrop (te : TE) : TS := fun D σ H => te σ H fun _ H1 => D.nx σ H1
theorem ps_expr (he : PE X e te) (hs : swapsWith e none pos.line X.env = pure false := by rfl) : PS X (.Expr e pos) (tDrop te) := by
  intro pins s σ H D I h
  exact wpAny_Expr_any (thn (he pins s σ H _ I h) fun v s1 ⟨x, H1, I1, r1, q1⟩ => ⟨σ, H1, I1, q1⟩) I.quiet hs
def tRet (te : TE) : TS := fun D σ H => te σ H D.rt
theorem ps_ret (he : PE X e te) : PS X (.Return (some e) pos) (tRet te) := by
  intro pins s σ H D I h
  exact wpAny_Return_some (thn (he pins s σ H _ I h) fun v s1 ⟨x, H1, I1, r1, q1⟩ => ⟨x, σ, H1, I1, r1, q1⟩)
def tIfS (c : TT) (t u : TS) : TS := fun D σ H => c σ H fun b H1 => if b = true then t D σ H1 else u D σ H1
theorem ps_if {c : Expr} {a b : List Stmt} {tc : TT} (hc : PT X c tc) (ha : PSs X a t) (hb : PSs X b u) : PS X (.If c a b pos) (tIfS tc t u) := by
  intro pins s σ H D I h
  refine wpAny_If (thn (hc pins s σ H _ I h) fun d s1 ⟨H1, I1, q1⟩ => ?_)
  cases d with
  | true => exact ha pins s1 σ H1 D I1 q1
  | false => exact hb pins s1 σ H1 D I1 q1
def tNever : TS := fun _ _ _ => False
theorem pss_never {sts : List Stmt} : PSs X sts tNever := fun _ _ _ _ _ _ h => h.elim
end
abbrev TG := V -> St -> Hp -> (St -> Hp -> Prop) -> Prop
abbrev TGs := List V -> St -> Hp -> (St -> Hp -> Prop) -> Prop
def PG (X : Cx) (target : Expr) (t : TG) : Prop :=
  ∀ (pins : List (Addr × Obj)) (s : Shared) (σ : St) (H : Hp) (v : V) (u : Value) (Q : St -> Hp -> Prop), Inv X pins σ H s -> RelV v u -> t v σ H Q ->
    wpAny (model X.prog X.w) X.A (assign target X.env u) (fun _ s' => ∃ σ' H', Inv X pins σ' H' s' /\ Q σ' H') X.xe s
def PGs (X : Cx) (ts : List Expr) (t : TGs) : Prop :=
  ∀ (pins : List (Addr × Obj)) (s : Shared) (σ : St) (H : Hp) (vs : List V) (us : List Value) (Q : St -> Hp -> Prop), Inv X pins σ H s -> Vals vs us -> t vs σ H Q ->
    wpAny (model X.prog X.w) X.A (assignInOrder ((assignEach ts X.env).map (·.2)) us) (fun _ s' => ∃ σ' H', Inv X pins σ' H' s' /\ Q σ' H') X.xe s
section
variable {X : Cx} {pos : Pos}
def gName (i : Nat) : TG := fun v σ H Q => Q (σ.set i (some v)) H
theorem pg_name {i : Nat} {x : Str} (hN : X.N.Nodup) (hi : X.N[i]? = some x) (hx : Loc X.env.scope x) (hf : X.fn x = true \/ X.env.scope.names.lookup x = some .local := by first | exact .inl rfl | exact .inr rfl | assumption) : PG X (.Name x pos) (gName i) := by
  intro pins s σ H v u Q I r h
  exact wpAny_assign_Name (store_ok I hN hi hx r (fun s' I' => ⟨_, H, I', h⟩) hf)
def gNil : TGs := fun vs σ H Q => vs = [] /\ Q σ H
def gCons (t : TG) (u : TGs) : TGs := fun vs σ H Q => ∃ v r, vs = v :: r /\ t v σ H fun σ' H' => u r σ' H' Q
theorem pgs_nil : PGs X [] gNil := by
  intro pins s σ H vs us Q I r h
  obtain ⟨e, h⟩ := h
  subst e
  cases r
  exact assignInOrder_nil ⟨σ, H, I, h⟩
theorem pgs_cons {e : Expr} {es : List Expr} {t : TG} {u : TGs} (h1 : PG X e t) (h2 : PGs X es u)
    (hs : (assignEach (e :: es) X.env).map (·.2) = assign e X.env :: (assignEach es X.env).map (·.2) := by rfl) : PGs X (e :: es) (gCons t u) := by
  intro pins s σ H vs us Q I r h
  obtain ⟨v, vr, e1, h⟩ := h
  subst e1
  cases r with
  | cons r rr =>
    rw [hs]
    refine assignInOrder_cons (thn (h1 pins s σ H _ _ _ I r h) fun _ s1 ⟨σ1, H1, I1, q1⟩ => ?_)
    exact h2 pins s1 σ1 H1 _ _ Q I1 rr q1
def gTup (K : PySem.W.Frag) (n : Nat) (t : TGs) : TG := fun v σ H Q => ∃ a xs, v = .ref a /\ SqT K H a xs /\ xs.length = n /\ t xs σ H Q
theorem pg_tup {es : List Expr} {k : Nat} {t : TGs} {n : Nat} (hc : X.calm = true) (h : PGs X es t)
    (hn : (assignEach es X.env).length = n := by rfl) (hst : (assignEach es X.env).findIdx? (·.1) = none := by rfl) : PG X (.Tuple es k pos) (gTup X.K n t) := by
  intro pins s σ H v u Q I r hw
  obtain ⟨a, xs, e1, hq, hl, hw⟩ := hw
  subst e1
  cases r
  obtain ⟨its, rv, ht, hz⟩ := I.tuple hq
  refine assign_Tuple_tuple (I.ok.hd hc) ht (by simp [hn, <- hl, rv.length]) hst fun h' hx => ?_
  have I1 : Inv X pins σ H { s with heap := h' } := I.kept (t' := s.toks) fun b o e => hx b o (Nat.ne_of_lt (Heap.lt_size e)) e
  exact h pins _ σ H xs _ Q I1 (by simpa using rv) hw
def tAsg (te : TE) (g : TG) : TS := fun D σ H => te σ H fun x H1 => g x σ H1 D.nx
theorem ps_set {i : Nat} {x : Str} {e : Expr} {te : TE} {pos' : Pos} (hN : X.N.Nodup) (hi : X.N[i]? = some x) (hx : Loc X.env.scope x) (he : PE X e te) (hs : swapsWith e (some (.Name x pos')) pos.line X.env = pure false := by rfl) (hf : X.fn x = true \/ X.env.scope.names.lookup x = some .local := by first | exact .inl rfl | exact .inr rfl | assumption) :
    PS X (.Assign [.Name x pos'] e pos) (tAsg te (gName i)) := by
  intro pins s σ H D I h
  refine wpAny_Assign_Name (thn (he pins s σ H _ I h) fun v s1 ⟨y, H1, I1, r1, q1⟩ => ?_) hs
  exact store_ok I1 hN hi hx r1 (fun s2 I2 => ⟨_, H1, I2, q1⟩) hf
def tWhile (c : TT) (tb : TS) : TS := fun D σ H => ∃ W : Nat -> St -> Hp -> Prop, (∃ m, W m σ H) /\ ∀ m σ H, W m σ H ->
  c σ H fun b H1 => if b = true then ∃ N : St -> Hp -> Prop, (∀ σ' H', N σ' H' -> ∃ m', m' < m /\ W m' σ' H') /\ tb { D with nx := N, ct := N, bk := D.nx } σ H1 else D.nx σ H1
theorem ps_while {c : Expr} {body : List Stmt} {tc : TT} {tb : TS} (hp : PassesOwn (model X.prog X.w) X.A X.env X.xe) (hc : PT X c tc) (hb : PSs X body tb) : PS X (.While c body [] pos) (tWhile tc tb) := by
  intro pins s σ H D I h
  obtain ⟨W, ⟨m0, w0⟩, turn⟩ := h
  refine wpAny_While (codeAny_whileLoop (fun n s' => ∃ σ' H', Inv X pins σ' H' s' /\ W n σ' H') ?_ m0 ⟨σ, H, I, w0⟩)
  rintro n s1 ⟨σ1, H1, I1, w1⟩
  refine wpAny_passesOwn hp (thn (hc pins s1 σ1 H1 _ I1 (turn n σ1 H1 w1)) fun b s2 ⟨H2, I2, q2⟩ => ?_)
  cases b with
  | true =>
    obtain ⟨N, hN, q2⟩ := q2
    rw [if_pos rfl]
    refine wpAny_passesOwn hp (thn (hb pins s2 σ1 H2 _ I2 q2) fun f s3 q3 => ?_)
    cases f with
    | next =>
      obtain ⟨σ3, H3, I3, n3⟩ := q3
      obtain ⟨m', hm, w3⟩ := hN σ3 H3 n3
      exact ⟨m', hm, σ3, H3, I3, w3⟩
    | cont =>
      obtain ⟨σ3, H3, I3, n3⟩ := q3
      obtain ⟨m', hm, w3⟩ := hN σ3 H3 n3
      exact ⟨m', hm, σ3, H3, I3, w3⟩
    | brk => exact q3
    | ret v => exact q3
  | false =>
    rw [if_neg Bool.false_ne_true]
    exact wpAny_execs_nil ⟨σ1, H2, I2, q2⟩
end
structure It where
  go : Nat -> Hp -> Prop
  yld : Nat -> Hp -> V -> Hp -> Prop
  stop : Nat -> Hp -> Prop
def FpOk (X : Cx) (pins : List (Addr × Obj)) (H : Hp) (b : Addr) : Prop :=
  H b = none /\ b ≠ X.env.locals /\ b ∉ X.fs /\ (b ∈ X.ex \/ X.s₀.heap.objs.size <= b) /\ (∀ x c, X.env.cells.lookup x = some c -> c ≠ b) /\ ∀ p ∈ X.pn ++ pins, p.1 ≠ b
theorem Inv.fpOk {X : Cx} {pins : List (Addr × Obj)} {σ : St} {H H' : Hp} {s : Shared} {b : Addr} (I : Inv X pins σ H s) (hb : s.heap.objs.size <= b) (hn : H' b = none) : FpOk X pins H' b := by
  refine ⟨hn, Nat.ne_of_gt (Nat.lt_of_lt_of_le I.lt hb), I.nofs hb, .inr (Nat.le_trans I.sz hb), fun x c e z => ?_, fun p hp z => ?_⟩
  · obtain ⟨v, q⟩ := I.cell x c e
    exact absurd (Nat.lt_of_lt_of_le q.lt (by rw [z]; exact hb)) (Nat.lt_irrefl _)
  · exact absurd (Nat.lt_of_lt_of_le (Heap.lt_size (I.pin p hp).1) (by rw [z]; exact hb)) (Nat.lt_irrefl _)
structure Turn (P : Program) (w : World) (K : PySem.W.Frag) (tg : Expr) (J : It) (fp : List Addr) (it : Addr) (tn : Nat -> Heap -> Prop) : Prop where
  mem : it ∈ fp
  obj : ∀ i h, tn i h -> ∀ b ∈ fp, ∃ o, h.get? b = some o /\ ∀ v, o.data ≠ .cell v
  keep : ∀ i h h', tn i h -> (∀ b ∈ fp, ∀ o, h.get? b = some o -> h'.get? b = some o) -> tn i h'
  item : ∀ (X : Cx), X.prog = P -> X.w = w -> X.K = K -> X.calm = true -> ∀ (i : Nat) (pins : List (Addr × Obj)) (s : Shared) (σ : St) (H : Hp) (E : Value -> Shared -> Prop), Inv X pins σ H s -> (∀ b ∈ fp, FpOk X pins H b) -> tn i s.heap -> J.go i H ->
    wpAny (model P w) X.A (pyNext (.ref it)) (fun r s1 => ∃ u, r = some u /\
      wpAny (model P w) X.A (letOwnedTupleGo tg (.ref it) u) (fun _ s2 => ∃ x H', Inv X pins σ H' s2 /\ RelV x u /\ J.yld i H x H' /\ tn (i + 1) s2.heap /\ ∀ b ∈ fp, H' b = none) E s1) E s
  done : ∀ (X : Cx), X.prog = P -> X.w = w -> X.K = K -> X.calm = true -> ∀ (i : Nat) (pins : List (Addr × Obj)) (s : Shared) (σ : St) (H : Hp) (E : Value -> Shared -> Prop), Inv X pins σ H s -> (∀ b ∈ fp, FpOk X pins H b) -> tn i s.heap -> J.stop i H ->
    wpAny (model P w) X.A (pyNext (.ref it)) (fun r s1 => r = none /\ Inv X pins σ H s1) E s
  self : ∀ (A : Around) (i : Nat) (s : Shared) (Q : Value -> Shared -> Prop) (E : Value -> Shared -> Prop), tn i s.heap -> Q (.ref it) s -> wpAny (model P w) A (pyIter (.ref it)) Q E s
abbrev TI := St -> Hp -> (It -> Hp -> Prop) -> Prop
def PIE (X : Cx) (pins : List (Addr × Obj)) (σ : St) (tg : Expr) (R : It -> Hp -> Prop) (itv : Value) (s2 : Shared) : Prop :=
  ∃ (it : Addr) (fp : List Addr) (tn : Nat -> Heap -> Prop) (J : It) (H' : Hp), itv = .ref it /\ Inv X pins σ H' s2 /\ Turn X.prog X.w X.K tg J fp it tn /\ tn 0 s2.heap /\ (∀ b ∈ fp, FpOk X pins H' b) /\ R J H'
def PI (X : Cx) (tg iter : Expr) (wi : TI) : Prop :=
  ∀ (pins : List (Addr × Obj)) (s : Shared) (σ : St) (H : Hp) (R : It -> Hp -> Prop), Inv X pins σ H s -> wi σ H R ->
    wpAny (model X.prog X.w) X.A (eval iter X.env) (fun v s1 => wpAny (model X.prog X.w) X.A (pyIter v) (PIE X pins σ tg R) X.xe s1) X.xe s
theorem go_of {M : Model} {A : Around} {E : Value -> Shared -> Prop} {s : Shared} {tg : Expr} {it : Addr} {u : Value} {o : Obj} {n : String} {vs : Array Value} {Q : Unit -> Shared -> Prop} (ho : s.heap.get? it = some o) (hc : o.cls = .type n) (hd : o.data = .fields vs)
    (hn : ["enumerate", "zip", "dict_itemiterator", "dict_reverseitemiterator", "odict_iterator", "itertools.zip_longest", "itertools.pairwise"].contains n = false) (hQ : Q () s) : wpAny M A (letOwnedTupleGo tg (.ref it) u) Q E s := by
  unfold letOwnedTupleGo
  cases tg <;> first
    | exact wpAny_pure hQ
    | (cases u <;> first
        | exact wpAny_pure hQ
        | (refine wpAny_bind (wpAny_load ho ?_)
           rw [hc, hd]
           show wpAny M A (if (["enumerate", "zip", "dict_itemiterator", "dict_reverseitemiterator", "odict_iterator", "itertools.zip_longest", "itertools.pairwise"].contains n && vs[0]? == some (rawInt _)) = true then _ else _) Q E s
           rw [if_neg (by intro h; rw [hn, Bool.false_and] at h; cases h)]
           exact wpAny_pure hQ))
def Itl (K : PySem.W.Frag) (a : Addr) : It :=
  ⟨fun i H => ∃ xs x, SqL K H a xs /\ xs[i]? = some x, fun i H x H' => H' = H /\ ∀ xs, SqL K H a xs -> xs[i]? = some x, fun i H => ∃ xs, SqL K H a xs /\ xs.length <= i⟩
def Itt (K : PySem.W.Frag) (a : Addr) : It :=
  ⟨fun i H => ∃ xs x, SqT K H a xs /\ xs[i]? = some x, fun i H x H' => H' = H /\ ∀ xs, SqT K H a xs -> xs[i]? = some x, fun i H => ∃ xs, SqT K H a xs /\ xs.length <= i⟩
def Itr (lo : Int) (n : Nat) : It := ⟨fun i _ => i < n, fun i H x H' => H' = H /\ x = .int (lo + i), fun i _ => n <= i⟩
theorem turn_list {P : Program} {w : World} {K : PySem.W.Frag} {tg : Expr} (a it : Addr) : Turn P w K tg (Itl K a) [it] it (fun i h => h.IsListIter it a i) where
  mem := by simp
  obj := fun i h st b hb => by
    have e : b = it := by simpa using hb
    subst e
    obtain ⟨o, e, c, d⟩ := st
    exact ⟨o, e, fun v z => by rw [d] at z; cases z⟩
  keep := fun i h h' st k => st.at fun o e => k it (by simp) o e
  item := by
    intro X hP hw hK hc i pins s σ H E I hf st hg
    subst hP hw hK
    obtain ⟨xs, x, hq, hx⟩ := hg
    obtain ⟨its, rv, p, hz⟩ := I.list hq
    obtain ⟨u, hu, ru⟩ := rv.get hx
    obtain ⟨f0, f1, f2, f3, f4, f5⟩ := hf it (by simp)
    refine wpAny_pyNext_list_item st p.isList (x := u) (by simpa using hu) fun h' st' sb => ?_
    have I1 : Inv X pins σ H { s with heap := h' } := I.turned (t' := s.toks) (fun b o hb e => (sb.2 b hb).trans e) f0 f1 f3 f4 f5
    obtain ⟨o, e, c, d⟩ := id st'
    exact ⟨u, rfl, go_of (s := { s with heap := h' }) e c d (by decide) ⟨x, H, I1, ru, ⟨rfl, fun ys hy => by rw [I.list_inj hy hq]; exact hx⟩, st', fun b hb => (hf b hb).1⟩⟩
  done := by
    intro X hP hw hK hc i pins s σ H E I hf st hg
    subst hP hw hK
    obtain ⟨xs, hq, hx⟩ := hg
    obtain ⟨its, rv, p, hz⟩ := I.list hq
    obtain ⟨f0, f1, f2, f3, f4, f5⟩ := hf it (by simp)
    have hl := rv.length
    exact wpAny_pyNext_list_end (I.ok.hd hc) st p.isList (by simp; lia) fun h' eb => ⟨rfl, I.turned (t' := s.toks) (fun b o hb e => eb b o hb e) f0 f1 f3 f4 f5⟩
  self := fun _ _ _ _ _ st h => wpAny_pyIter_listiter st h
theorem turn_tuple {P : Program} {w : World} {K : PySem.W.Frag} {tg : Expr} (a it : Addr) : Turn P w K tg (Itt K a) [it] it (fun i h => h.IsTupleIter it a i) where
  mem := by simp
  obj := fun i h st b hb => by
    have e : b = it := by simpa using hb
    subst e
    obtain ⟨o, e, c, d⟩ := st
    exact ⟨o, e, fun v z => by rw [d] at z; cases z⟩
  keep := fun i h h' st k => st.at fun o e => k it (by simp) o e
  item := by
    intro X hP hw hK hc i pins s σ H E I hf st hg
    subst hP hw hK
    obtain ⟨xs, x, hq, hx⟩ := hg
    obtain ⟨its, rv, p, hz⟩ := I.tuple hq
    obtain ⟨u, hu, ru⟩ := rv.get hx
    obtain ⟨f0, f1, f2, f3, f4, f5⟩ := hf it (by simp)
    refine wpAny_pyNext_tuple_item st (show s.heap.IsTuple a its.toArray from p) (x := u) (by simpa using hu) fun h' st' sb => ?_
    have I1 : Inv X pins σ H { s with heap := h' } := I.turned (t' := s.toks) (fun b o hb e => (sb.2 b hb).trans e) f0 f1 f3 f4 f5
    obtain ⟨o, e, c, d⟩ := id st'
    exact ⟨u, rfl, go_of (s := { s with heap := h' }) e c d (by decide) ⟨x, H, I1, ru, ⟨rfl, fun ys hy => by rw [I.tuple_inj hy hq]; exact hx⟩, st', fun b hb => (hf b hb).1⟩⟩
  done := by
    intro X hP hw hK hc i pins s σ H E I hf st hg
    subst hP hw hK
    obtain ⟨xs, hq, hx⟩ := hg
    obtain ⟨its, rv, p, hz⟩ := I.tuple hq
    obtain ⟨f0, f1, f2, f3, f4, f5⟩ := hf it (by simp)
    have hl := rv.length
    exact wpAny_pyNext_tuple_end (I.ok.hd hc) st (show s.heap.IsTuple a its.toArray from p) (by simp; lia) fun h' eb => ⟨rfl, I.turned (t' := s.toks) (fun b o hb e => eb b o hb e) f0 f1 f3 f4 f5⟩
  self := fun _ _ _ _ _ st h => wpAny_pyIter_tupleiter st h
theorem turn_range {P : Program} {w : World} {K : PySem.W.Frag} {tg : Expr} (it : Addr) (lo : Int) (n : Nat) : Turn P w K tg (Itr lo n) [it] it (fun i h => IsRangeIter h it (lo + (i : Nat) * 1) ((n : Int) - (i : Nat)) 1) where
  mem := by simp
  obj := fun i h st b hb => by
    have e : b = it := by simpa using hb
    subst e
    exact ⟨_, st, fun v z => by
      have z' : Data.fields _ = Data.cell v := z
      cases z'⟩
  keep := fun i h h' st k => k it (by simp) _ st
  item := by
    intro X hP hw hK hc i pins s σ H E I hf st hg
    subst hP hw hK
    obtain ⟨f0, f1, f2, f3, f4, f5⟩ := hf it (by simp)
    have W := Walks.range (prog := X.prog) (w := X.w) (I.ok.hd hc) it lo 1 n
    refine W.item i s _ _ hg st fun v h' tk hv st' kk => ?_
    obtain ⟨t, rfl⟩ := hv
    have I1 : Inv X pins σ H { s with heap := h', toks := tk } := I.turned (fun b o hb e => kk b o (by simpa using hb) e) f0 f1 f3 f4 f5
    refine ⟨_, rfl, go_of (s := { s with heap := h', toks := tk }) (n := "range_iterator") st' rfl rfl (by decide) ⟨.int (lo + i), H, I1, ⟨t, ?_⟩, ⟨rfl, rfl⟩, st', fun b hb => (hf b hb).1⟩⟩
    rw [Int.mul_one]
  done := by
    intro X hP hw hK hc i pins s σ H E I hf st hg
    subst hP hw hK
    obtain ⟨f0, f1, f2, f3, f4, f5⟩ := hf it (by simp)
    exact wpAny_pyNext_range_end (I.ok.hd hc) st (by have : n <= i := hg; lia) fun h' eb => ⟨rfl, I.turned (t' := s.toks) (fun b o hb e => eb b o hb e) f0 f1 f3 f4 f5⟩
  self := fun _ _ _ _ _ st h => wpAny_pyIter_rangeiter st h
section
variable {X : Cx} {tg : Expr}
def iList (K : PySem.W.Frag) (tl : TE) : TI := fun σ H R => tl σ H fun x H1 => ∃ a, x = .ref a /\ (∃ xs, SqL K H1 a xs) /\ R (Itl K a) H1
def iTup (K : PySem.W.Frag) (tl : TE) : TI := fun σ H R => tl σ H fun x H1 => ∃ a, x = .ref a /\ (∃ xs, SqT K H1 a xs) /\ R (Itt K a) H1
theorem pi_list {l : Expr} {tl : TE} (hl : PE X l tl) : PI X tg l (iList X.K tl) := by
  intro pins s σ H R I h
  refine thn (hl pins s σ H _ I h) fun v s1 ⟨x, H1, I1, r1, q1⟩ => ?_
  obtain ⟨a, e, ⟨xs, hq⟩, q⟩ := q1
  subst e
  cases r1
  obtain ⟨its, rv, p, hz⟩ := I1.list hq
  refine wpAny_pyIter_list p.isList ?_
  refine ⟨s1.heap.objs.size, [s1.heap.objs.size], _, _, H1, rfl, I1.kept (t' := s1.toks) fun b o e => Heap.get?_push_of_some _ e, turn_list a _, ⟨_, Heap.get?_push_size _ rfl, rfl, rfl⟩, fun b hb => ?_, q⟩
  have e : b = s1.heap.objs.size := by simpa using hb
  subst e
  exact I1.fpOk (Nat.le_refl _) (I1.hok.fresh (Nat.le_refl _))
theorem pi_tup {l : Expr} {tl : TE} (hl : PE X l tl) : PI X tg l (iTup X.K tl) := by
  intro pins s σ H R I h
  refine thn (hl pins s σ H _ I h) fun v s1 ⟨x, H1, I1, r1, q1⟩ => ?_
  obtain ⟨a, e, ⟨xs, hq⟩, q⟩ := q1
  subst e
  cases r1
  obtain ⟨its, rv, p, hz⟩ := I1.tuple hq
  refine wpAny_pyIter_tuple (show s1.heap.IsTuple a its.toArray from p) ?_
  refine ⟨s1.heap.objs.size, [s1.heap.objs.size], _, _, H1, rfl, I1.kept (t' := s1.toks) fun b o e => Heap.get?_push_of_some _ e, turn_tuple a _, ⟨_, Heap.get?_push_size _ rfl, rfl, rfl⟩, fun b hb => ?_, q⟩
  have e : b = s1.heap.objs.size := by simpa using hb
  subst e
  exact I1.fpOk (Nat.le_refl _) (I1.hok.fresh (Nat.le_refl _))
theorem range_it {pins : List (Addr × Obj)} {σ : St} {H : Hp} {s : Shared} {R : It -> Hp -> Prop} {E : Value -> Shared -> Prop} {lo hi : Int} {t u v : Tok} {tk : Nat} (I : Inv X pins σ H s) (h1 : -(2 ^ 62) <= lo) (h2 : lo < 2 ^ 62) (h3 : -(2 ^ 62) <= hi) (h4 : hi < 2 ^ 62)
    (q : R (Itr lo (hi - lo).toNat) H) : wpAny (model X.prog X.w) X.A (pyIter (.ref s.heap.objs.size)) (PIE X pins σ tg R) E { s with heap := s.heap.push { cls := .type "range", data := .fields #[.int lo t, .int hi u, .int 1 v] }, toks := tk } := by
  refine wpAny_pyIter_range (IsRange.new ..) (small_one h1 h2 h3 h4) ?_
  have I1 : Inv X pins σ H { s with heap := s.heap.push { cls := .type "range", data := .fields #[.int lo t, .int hi u, .int 1 v] }, toks := tk } := I.kept fun b o e => Heap.get?_push_of_some _ e
  refine ⟨(s.heap.push { cls := .type "range", data := .fields #[.int lo t, .int hi u, .int 1 v] }).objs.size, [(s.heap.push { cls := .type "range", data := .fields #[.int lo t, .int hi u, .int 1 v] }).objs.size], _, _, H, rfl,
    I1.kept (t' := tk) fun b o e => Heap.get?_push_of_some _ e, turn_range _ lo (hi - lo).toNat, ?_, fun b hb => ?_, q⟩
  · have e1 : lo + ((0 : Nat) : Int) * 1 = lo := by simp
    have e2 : (((hi - lo).toNat : Nat) : Int) - ((0 : Nat) : Int) = Builtin.Range.rangeSize lo hi 1 := by rw [rangeSize_one]; split <;> lia
    show IsRangeIter _ _ (lo + ((0 : Nat) : Int) * 1) ((((hi - lo).toNat : Nat) : Int) - ((0 : Nat) : Int)) 1
    rw [e1, e2]
    exact Heap.get?_push_size _ rfl
  · have e : b = (s.heap.push { cls := .type "range", data := .fields #[.int lo t, .int hi u, .int 1 v] }).objs.size := by simpa using hb
    subst e
    exact I1.fpOk (Nat.le_refl _) (I1.hok.fresh (Nat.le_refl _))
def iRng1 (ta : TA) : TI := fun σ H R => ta σ H fun vs H1 => ∃ j : Int, vs = [.int j] /\ -(2 ^ 62) <= j /\ j < 2 ^ 62 /\ R (Itr 0 j.toNat) H1
theorem pi_range1 {a : Expr} {ta : TA} {p pos : Pos} (hg : Gl X "range") (hm : X.mg "range" = none) (ha : PA X [a] ta) (hs : starEach [a] X.env = [(false, eval a X.env)] := by rfl) : PI X tg (.Call (.Name "range" p) [a] [] pos) (iRng1 ta) := by
  intro pins s σ H R I h
  refine Call_ (ld_blt I hg hm boot_range (PyProof.Rows.callWith_type1 (thn (ha pos pins s σ H _ I h) fun us s1 ⟨vs, H1, I1, r1, q1⟩ => ?_) hs rfl))
  obtain ⟨j, e, q1, q2, q⟩ := q1
  subst e
  cases r1 with
  | cons r rr =>
    cases rr
    obtain ⟨t, rfl⟩ := r
    exact call_range_1 (range_it I1 (by lia) (by lia) q1 q2 (by simpa using q))
def tFor (wi : TI) (g : TG) (tb : TS) : TS := fun D σ H => wi σ H fun J H1 => ∃ W : Nat -> Nat -> St -> Hp -> Prop, (∃ m, W 0 m σ H1) /\ ∀ i m σ H, W i m σ H ->
  (J.stop i H /\ D.nx σ H) \/ (J.go i H /\ ∃ N : St -> Hp -> Prop, (∀ σ' H', N σ' H' -> ∃ m', m' < m /\ W (i + 1) m' σ' H') /\ ∀ x H', J.yld i H x H' -> g x σ H' fun σ2 H2 => tb { D with nx := N, ct := N, bk := D.nx } σ2 H2)
def pinsAt (fp : List Addr) (h : Heap) : List (Addr × Obj) := fp.filterMap fun b => (h.get? b).map fun o => (b, o)
theorem mem_pinsAt {fp : List Addr} {h : Heap} {b : Addr} {o : Obj} (hb : b ∈ fp) (e : h.get? b = some o) : (b, o) ∈ pinsAt fp h := List.mem_filterMap.mpr ⟨b, hb, by rw [e]; rfl⟩
theorem of_pinsAt {fp : List Addr} {h : Heap} {p : Addr × Obj} (hp : p ∈ pinsAt fp h) : p.1 ∈ fp /\ h.get? p.1 = some p.2 := by
  obtain ⟨b, hb, e⟩ := List.mem_filterMap.mp hp
  cases q : h.get? b with
  | none => rw [q] at e; cases e
  | some o =>
    rw [q] at e
    have e' : (b, o) = p := Option.some.inj e
    subst e'
    exact ⟨hb, q⟩
theorem Inv.pinned {pins : List (Addr × Obj)} {σ : St} {H : Hp} {s : Shared} {fp : List Addr} (I : Inv X pins σ H s) (hf : ∀ b ∈ fp, FpOk X pins H b) (ho : ∀ b ∈ fp, ∃ o, s.heap.get? b = some o /\ ∀ v, o.data ≠ .cell v) : Inv X (pins ++ pinsAt fp s.heap) σ H s :=
  I.pins_of fun p hp => (List.mem_append.mp hp).elim (fun z => I.pin p (List.mem_append_right _ z)) fun z => by
    obtain ⟨hb, e⟩ := of_pinsAt z
    obtain ⟨f0, f1, f2, _⟩ := hf p.1 hb
    obtain ⟨o, e', d⟩ := ho p.1 hb
    rw [e] at e'; cases e'
    exact ⟨e, f0, f1, f2, d⟩
theorem Inv.unpinned {pins pl : List (Addr × Obj)} {σ : St} {H : Hp} {s : Shared} (I : Inv X (pins ++ pl) σ H s) : Inv X pins σ H s := I.pins_of fun p hp => I.pin p (List.mem_append_right _ (List.mem_append_left _ hp))
theorem ps_for {iter : Expr} {body : List Stmt} {wi : TI} {g : TG} {tb : TS} {pos : Pos} (hp : PassesOwn (model X.prog X.w) X.A X.env X.xe) (hc : X.calm = true) (hi : PI X tg iter wi) (hg : PG X tg g) (hb : PSs X body tb)
    (hs : ∀ x, foldedSetIterable iter X.env x = pure x := by intro _; rfl) : PS X (.For tg iter body [] pos) (tFor wi g tb) := by
  intro pins s σ H D I h
  refine wpAny_For (thn (hi pins s σ H _ I h) fun v s1 h1 => thn h1 fun itv s2 h2 => ?_) hs
  obtain ⟨it, fp, tn, J, H2, e, I2, T, st2, f2, W, ⟨m0, w0⟩, turn⟩ := h2
  subst e
  have stat : ∀ {H' : Hp}, (∀ b ∈ fp, H' b = none) -> ∀ b ∈ fp, FpOk X pins H' b := fun hn b hb => ⟨hn b hb, (f2 b hb).2⟩
  refine codeAny_forLoop_any (fun n s' => ∃ i σ' H', Inv X pins σ' H' s' /\ tn i s'.heap /\ (∀ b ∈ fp, H' b = none) /\ W i n σ' H') ?_ m0 ⟨0, σ, H2, I2, st2, fun b hb => (f2 b hb).1, w0⟩
  rintro n s3 ⟨i, σ3, H3, I3, st3, fr3, w3⟩
  rcases turn i n σ3 H3 w3 with ⟨stop, qn⟩ | ⟨go, N, hN, step⟩
  · refine wpAny_passesOwn hp (thn (T.done X rfl rfl rfl hc i pins s3 σ3 H3 X.xe I3 (stat fr3) st3 stop) fun r s4 ⟨hr, I4⟩ => ?_)
    subst hr
    exact wpAny_execs_nil ⟨σ3, H3, I4, qn⟩
  · refine wpAny_passesOwn hp (thn (T.item X rfl rfl rfl hc i pins s3 σ3 H3 X.xe I3 (stat fr3) st3 go) fun r s4 ⟨u, hr, h4⟩ => ?_)
    subst hr
    refine wpAny_passesOwn hp (thn h4 fun _ s5 ⟨x, H5, I5, r5, y5, st5, fr5⟩ => ?_)
    have I5' := I5.pinned (stat fr5) (T.obj _ _ st5)
    refine wpAny_passesOwn hp (thn (hg _ s5 σ3 H5 x u _ I5' r5 (step x H5 y5)) fun _ s6 ⟨σ6, H6, I6, q6⟩ => ?_)
    refine wpAny_passesOwn hp (thn (hb _ s6 σ6 H6 _ I6 q6) fun f s7 q7 => ?_)
    have again : ∀ {σ7 : St} {H7 : Hp}, Inv X (pins ++ pinsAt fp s5.heap) σ7 H7 s7 -> N σ7 H7 -> ∃ m, m < n /\ ∃ i σ' H', Inv X pins σ' H' s7 /\ tn i s7.heap /\ (∀ b ∈ fp, H' b = none) /\ W i m σ' H' := fun {σ7 H7} I7 n7 => by
      obtain ⟨m', hm, w7⟩ := hN σ7 H7 n7
      refine ⟨m', hm, i + 1, σ7, H7, I7.unpinned, T.keep _ _ _ st5 fun b hb o e => (I7.pin (b, o) (List.mem_append_right _ (List.mem_append_right _ (mem_pinsAt hb e)))).1, fun b hb => ?_, w7⟩
      obtain ⟨o, e, d⟩ := T.obj _ _ st5 b hb
      exact (I7.pin (b, o) (List.mem_append_right _ (List.mem_append_right _ (mem_pinsAt hb e)))).2.1
    cases f with
    | next => obtain ⟨σ7, H7, I7, n7⟩ := q7; exact again I7 n7
    | cont => obtain ⟨σ7, H7, I7, n7⟩ := q7; exact again I7 n7
    | brk => obtain ⟨σ7, H7, I7, q7⟩ := q7; exact ⟨σ7, H7, I7.unpinned, q7⟩
    | ret v => obtain ⟨x7, σ7, H7, I7, r7, q7⟩ := q7; exact ⟨x7, σ7, H7, I7.unpinned, r7, q7⟩
end
theorem for_list {K : PySem.W.Frag} {a : Addr} {xs : List V} {g : TG} {tb : TS} {D : Ends} {σ : St} {H : Hp} (Pv : Nat -> St -> Hp -> Prop) (h0 : Pv 0 σ H) (hl : ∀ i σ H, i <= xs.length -> Pv i σ H -> SqL K H a xs)
    (hs : ∀ i x σ H, xs[i]? = some x -> Pv i σ H -> g x σ H fun σ2 H2 => tb { D with nx := Pv (i + 1), ct := Pv (i + 1), bk := D.nx } σ2 H2) (hd : ∀ σ H, Pv xs.length σ H -> D.nx σ H) :
    ∃ W : Nat -> Nat -> St -> Hp -> Prop, (∃ m, W 0 m σ H) /\ ∀ i m σ H, W i m σ H ->
      ((Itl K a).stop i H /\ D.nx σ H) \/ ((Itl K a).go i H /\ ∃ N : St -> Hp -> Prop, (∀ σ' H', N σ' H' -> ∃ m', m' < m /\ W (i + 1) m' σ' H') /\ ∀ x H', (Itl K a).yld i H x H' -> g x σ H' fun σ2 H2 => tb { D with nx := N, ct := N, bk := D.nx } σ2 H2) := by
  refine ⟨fun i m σ H => m = xs.length - i /\ i <= xs.length /\ Pv i σ H, ⟨xs.length, by simp, Nat.zero_le _, h0⟩, ?_⟩
  rintro i m σ H ⟨rfl, hi, p⟩
  have q := hl i σ H hi p
  by_cases hlt : i < xs.length
  · refine .inr ⟨⟨xs, xs[i], q, by simp [hlt]⟩, Pv (i + 1), fun σ' H' p' => ⟨xs.length - (i + 1), by lia, rfl, hlt, p'⟩, fun x H' y => ?_⟩
    obtain ⟨e, y⟩ := y
    subst e
    exact hs i x σ _ (y xs q) p
  · have e : i = xs.length := by lia
    subst e
    exact .inl ⟨⟨xs, q, Nat.le_refl _⟩, hd σ H p⟩
theorem for_tup {K : PySem.W.Frag} {a : Addr} {xs : List V} {g : TG} {tb : TS} {D : Ends} {σ : St} {H : Hp} (Pv : Nat -> St -> Hp -> Prop) (h0 : Pv 0 σ H) (hl : ∀ i σ H, i <= xs.length -> Pv i σ H -> SqT K H a xs)
    (hs : ∀ i x σ H, xs[i]? = some x -> Pv i σ H -> g x σ H fun σ2 H2 => tb { D with nx := Pv (i + 1), ct := Pv (i + 1), bk := D.nx } σ2 H2) (hd : ∀ σ H, Pv xs.length σ H -> D.nx σ H) :
    ∃ W : Nat -> Nat -> St -> Hp -> Prop, (∃ m, W 0 m σ H) /\ ∀ i m σ H, W i m σ H ->
      ((Itt K a).stop i H /\ D.nx σ H) \/ ((Itt K a).go i H /\ ∃ N : St -> Hp -> Prop, (∀ σ' H', N σ' H' -> ∃ m', m' < m /\ W (i + 1) m' σ' H') /\ ∀ x H', (Itt K a).yld i H x H' -> g x σ H' fun σ2 H2 => tb { D with nx := N, ct := N, bk := D.nx } σ2 H2) := by
  refine ⟨fun i m σ H => m = xs.length - i /\ i <= xs.length /\ Pv i σ H, ⟨xs.length, by simp, Nat.zero_le _, h0⟩, ?_⟩
  rintro i m σ H ⟨rfl, hi, p⟩
  have q := hl i σ H hi p
  by_cases hlt : i < xs.length
  · refine .inr ⟨⟨xs, xs[i], q, by simp [hlt]⟩, Pv (i + 1), fun σ' H' p' => ⟨xs.length - (i + 1), by lia, rfl, hlt, p'⟩, fun x H' y => ?_⟩
    obtain ⟨e, y⟩ := y
    subst e
    exact hs i x σ _ (y xs q) p
  · have e : i = xs.length := by lia
    subst e
    exact .inl ⟨⟨xs, q, Nat.le_refl _⟩, hd σ H p⟩
theorem for_range {lo : Int} {n : Nat} {g : TG} {tb : TS} {D : Ends} {σ : St} {H : Hp} (Pv : Nat -> St -> Hp -> Prop) (h0 : Pv 0 σ H)
    (hs : ∀ i σ H, i < n -> Pv i σ H -> g (.int (lo + i)) σ H fun σ2 H2 => tb { D with nx := Pv (i + 1), ct := Pv (i + 1), bk := D.nx } σ2 H2) (hd : ∀ σ H, Pv n σ H -> D.nx σ H) :
    ∃ W : Nat -> Nat -> St -> Hp -> Prop, (∃ m, W 0 m σ H) /\ ∀ i m σ H, W i m σ H ->
      ((Itr lo n).stop i H /\ D.nx σ H) \/ ((Itr lo n).go i H /\ ∃ N : St -> Hp -> Prop, (∀ σ' H', N σ' H' -> ∃ m', m' < m /\ W (i + 1) m' σ' H') /\ ∀ x H', (Itr lo n).yld i H x H' -> g x σ H' fun σ2 H2 => tb { D with nx := N, ct := N, bk := D.nx } σ2 H2) := by
  refine ⟨fun i m σ H => m = n - i /\ i <= n /\ Pv i σ H, ⟨n, by simp, Nat.zero_le _, h0⟩, ?_⟩
  rintro i m σ H ⟨rfl, hi, p⟩
  by_cases hlt : i < n
  · refine .inr ⟨hlt, Pv (i + 1), fun σ' H' p' => ⟨n - (i + 1), by lia, rfl, hlt, p'⟩, fun x H' y => ?_⟩
    obtain ⟨e, y⟩ := y
    subst e y
    exact hs i σ _ hlt p
  · have e : i = n := by lia
    subst e
    exact .inl ⟨Nat.le_refl _, hd σ H p⟩
abbrev R2 := V -> V -> Hp -> VK -> Prop
def OpR (X : Cx) (f : Value -> Value -> Sem Value) (r : R2) : Prop :=
  ∀ (pins : List (Addr × Obj)) (s : Shared) (σ : St) (H : Hp) (x y : V) (v u : Value) (Q : VK), Inv X pins σ H s -> RelV x v -> RelV y u -> r x y H Q ->
    wpAny (model X.prog X.w) X.A (f v u) (EP X pins σ Q) X.xe s
def UnR (X : Cx) (f : Value -> Sem Value) (r : V -> Hp -> VK -> Prop) : Prop :=
  ∀ (pins : List (Addr × Obj)) (s : Shared) (σ : St) (H : Hp) (x : V) (v : Value) (Q : VK), Inv X pins σ H s -> RelV x v -> r x H Q ->
    wpAny (model X.prog X.w) X.A (f v) (EP X pins σ Q) X.xe s
def CallR (X : Cx) (f : Value) (r : List V -> Hp -> VK -> Prop) : Prop :=
  ∀ (pins : List (Addr × Obj)) (s : Shared) (σ : St) (H : Hp) (xs : List V) (us : List Value) (Q : VK), Inv X pins σ H s -> Vals xs us -> r xs H Q ->
    wpAny (model X.prog X.w) X.A (call f us) (EP X pins σ Q) X.xe s
def TruR (X : Cx) (r : V -> Hp -> (Bool -> Hp -> Prop) -> Prop) : Prop :=
  ∀ (pins : List (Addr × Obj)) (s : Shared) (σ : St) (H : Hp) (x : V) (v : Value) (Q : Bool -> Hp -> Prop), Inv X pins σ H s -> RelV x v -> r x H Q ->
    wpAny (model X.prog X.w) X.A (truthy v) (TP X pins σ Q) X.xe s
def tOp (r : R2) (ta tb : TE) : TE := fun σ H Q => ta σ H fun x H1 => tb σ H1 fun y H2 => r x y H2 Q
def tUn (r : V -> Hp -> VK -> Prop) (ta : TE) : TE := fun σ H Q => ta σ H fun x H1 => r x H1 Q
def rI (C : Int -> Int -> Prop) (g : Int -> Int -> V) : R2 := fun x y H Q => ∃ i j, x = .int i /\ y = .int j /\ C i j /\ Q (g i j) H
def rI0 (g : Int -> Int -> V) : R2 := fun x y H Q => ∃ i j, x = .int i /\ y = .int j /\ Q (g i j) H
def rU (g : Int -> V) : V -> Hp -> VK -> Prop := fun x H Q => ∃ i, x = .int i /\ Q (g i) H
section
variable {X : Cx} {a b c : Expr} {ta tb tc : TE} {pos : Pos}
theorem binT (ha : PE X a ta) (hb : PE X b tb) {pins : List (Addr × Obj)} {s : Shared} {σ : St} {H : Hp} {R : V -> V -> Hp -> Prop} (I : Inv X pins σ H s)
    (h : ta σ H fun x H1 => tb σ H1 fun y H2 => R x y H2) {Q : Value -> Shared -> Prop} {f : Value -> Value -> Sem Value}
    (hf : ∀ v u s2 x y H2, Inv X pins σ H2 s2 -> RelV x v -> RelV y u -> R x y H2 -> wpAny (model X.prog X.w) X.A (f v u) Q X.xe s2) :
    wpAny (model X.prog X.w) X.A (eval a X.env) (fun v s₁ => wpAny (model X.prog X.w) X.A (eval b X.env) (fun u s₂ => wpAny (model X.prog X.w) X.A (f v u) Q X.xe s₂) X.xe s₁) X.xe s := by
  refine thn (ha pins s σ H _ I h) fun v s1 ⟨x, H1, I1, r1, q1⟩ => ?_
  refine thn (hb pins s1 σ H1 _ I1 q1) fun u s2 ⟨y, H2, I2, r2, q2⟩ => ?_
  exact hf v u s2 x y H2 I2 r1 r2 q2
theorem pe_op {op : Operator} {r : R2} (ho : OpR X (binaryOp op) r) (ha : PE X a ta) (hb : PE X b tb) : PE X (.BinOp a op b pos) (tOp r ta tb) := by
  intro pins s σ H Q I h
  exact wpAny_BinOp (binT ha hb I h fun v u s2 x y H2 I2 rx ry q => ho pins s2 σ H2 x y v u Q I2 rx ry q)
theorem pe_un {op : UnaryOp} {r : V -> Hp -> VK -> Prop} (ho : UnR X (unaryOp op) r) (ha : PE X a ta) : PE X (.UnaryOp op a pos) (tUn r ta) := by
  intro pins s σ H Q I h
  exact UnaryOp_ (thn (ha pins s σ H _ I h) fun v s1 ⟨x, H1, I1, r1, q1⟩ => ho pins s1 σ H1 x v Q I1 r1 q1)
theorem opI {f : Value -> Value -> Sem Value} {C : Int -> Int -> Prop} {g : Int -> Int -> Int}
    (rule : ∀ (i j : Int) (t u : Tok) (s : Shared) (Q : Value -> Shared -> Prop) (E : Value -> Shared -> Prop), C i j -> Q (.int (g i j) s.toks) { s with toks := s.toks + 1 } -> wpAny (model X.prog X.w) X.A (f (.int i t) (.int j u)) Q E s) :
    OpR X f (rI C fun i j => .int (g i j)) := by
  intro pins s σ H x y v u Q I rx ry h
  obtain ⟨i, j, rfl, rfl, hc, q⟩ := h
  obtain ⟨t, rfl⟩ := rx
  obtain ⟨t', rfl⟩ := ry
  exact rule i j t t' s _ _ hc ⟨.int (g i j), H, I.tok _, ⟨_, rfl⟩, q⟩
theorem opI0 {f : Value -> Value -> Sem Value} {g : Int -> Int -> Int}
    (rule : ∀ (i j : Int) (t u : Tok) (s : Shared) (Q : Value -> Shared -> Prop) (E : Value -> Shared -> Prop), Q (.int (g i j) s.toks) { s with toks := s.toks + 1 } -> wpAny (model X.prog X.w) X.A (f (.int i t) (.int j u)) Q E s) :
    OpR X f (rI0 fun i j => .int (g i j)) := by
  intro pins s σ H x y v u Q I rx ry h
  obtain ⟨i, j, rfl, rfl, q⟩ := h
  obtain ⟨t, rfl⟩ := rx
  obtain ⟨t', rfl⟩ := ry
  exact rule i j t t' s _ _ ⟨.int (g i j), H, I.tok _, ⟨_, rfl⟩, q⟩
theorem opB0 {f : Value -> Value -> Sem Value} {g : Int -> Int -> Bool}
    (rule : ∀ (i j : Int) (t u : Tok) (s : Shared) (Q : Value -> Shared -> Prop) (E : Value -> Shared -> Prop), Q (.bool (g i j)) s -> wpAny (model X.prog X.w) X.A (f (.int i t) (.int j u)) Q E s) :
    OpR X f (rI0 fun i j => .bl (g i j)) := by
  intro pins s σ H x y v u Q I rx ry h
  obtain ⟨i, j, rfl, rfl, q⟩ := h
  obtain ⟨t, rfl⟩ := rx
  obtain ⟨t', rfl⟩ := ry
  exact rule i j t t' s _ _ ⟨.bl (g i j), H, I, rfl, q⟩
def CDiv (i j : Int) : Prop := 0 < j /\ j < 1073741824
def CPow (i j : Int) : Prop := 0 <= j /\ j <= 1000000 /\ i.natAbs < 2 ^ 64
def CMul (i j : Int) : Prop := (-(2 ^ 64) < i /\ i < 2 ^ 64) \/ (-(2 ^ 64) < j /\ j < 2 ^ 64)
theorem CMul.ok {i j : Int} (h : CMul i j) : IntMulOk i j := by
  rcases h with ⟨h1, h2⟩ | ⟨h1, h2⟩
  · exact .of_left (intBits_le_64 h1 h2)
  · exact .of_right (intBits_le_64 h1 h2)
theorem op_add : OpR X (binaryOp .Add) (rI0 fun i j => .int (i + j)) := opI0 fun _ _ _ _ _ _ _ q => add_int q
theorem op_sub : OpR X (binaryOp .Sub) (rI0 fun i j => .int (i - j)) := opI0 fun _ _ _ _ _ _ _ q => sub_int q
theorem op_mul : OpR X (binaryOp .Mult) (rI CMul fun i j => .int (i * j)) := opI fun _ _ _ _ _ _ _ hc q => mul_int q hc.ok
theorem op_fdiv : OpR X (binaryOp .FloorDiv) (rI CDiv fun i j => .int (i / j)) := opI fun i j _ _ _ _ _ hc q => by
  have h1 : (0 : Int) < j := hc.1
  have h2 : j < 1073741824 := hc.2
  exact floordiv_int (by lia) (by rw [Int.fdiv_eq_ediv_of_nonneg i (by lia)]; exact q) (.inl (PyProof.noPylong_small (by lia)))
theorem op_mod : OpR X (binaryOp .Mod) (rI (fun _ j => 0 < j) fun i j => .int (i % j)) := opI fun i j _ _ _ _ _ hc q => by
  have h1 : (0 : Int) < j := hc
  exact mod_int' (by lia) (by rw [Int.fmod_eq_emod_of_nonneg i (by lia)]; exact q)
theorem op_pow : OpR X (binaryOp .Pow) (rI CPow fun i j => .int (i ^ j.toNat)) := opI fun _ _ _ _ _ _ _ hc q => pow_int_small hc.1 hc.2.1 hc.2.2 q
theorem op_xor : OpR X (binaryOp .BitXor) (rI0 fun i j => .int (Builtin.bitXor i j)) := opI0 fun _ _ _ _ _ _ _ q => xor_int q
theorem unI {f : Value -> Sem Value} {g : Int -> Int}
    (rule : ∀ (i : Int) (t : Tok) (s : Shared) (Q : Value -> Shared -> Prop) (E : Value -> Shared -> Prop), Q (.int (g i) s.toks) { s with toks := s.toks + 1 } -> wpAny (model X.prog X.w) X.A (f (.int i t)) Q E s) :
    UnR X f (rU fun i => .int (g i)) := by
  intro pins s σ H x v Q I rx h
  obtain ⟨i, rfl, q⟩ := h
  obtain ⟨t, rfl⟩ := rx
  exact rule i t s _ _ ⟨.int (g i), H, I.tok _, ⟨_, rfl⟩, q⟩
theorem un_neg : UnR X (unaryOp .USub) (rU fun i => .int (-i)) := unI fun _ _ _ _ _ q => neg_int q
end
def scal : V -> V -> Bool
  | .non, .non => true | .non, .int _ => true | .int _, .non => true | .non, .bl _ => true | .bl _, .non => true | .non, .str _ => true | .str _, .non => true
  | .int _, .int _ => true | .bl _, .bl _ => true | .str _, .str _ => true | .byt _, .byt _ => true
  | .int _, .str _ => true | .str _, .int _ => true | .bl _, .str _ => true | .str _, .bl _ => true
  | _, _ => false
def rEq : R2 := fun x y H Q => scal x y = true /\ Q (.bl (decide (x = y))) H
def rNe : R2 := fun x y H Q => scal x y = true /\ Q (.bl (!decide (x = y))) H
theorem dec_int {i j : Int} : decide (V.int i = V.int j) = (i == j) := by
  rw [Bool.eq_iff_iff]
  simp
theorem dec_bl {i j : Bool} : decide (V.bl i = V.bl j) = (i == j) := by
  rw [Bool.eq_iff_iff]
  simp
theorem dec_str {i j : Str} : decide (V.str i = V.str j) = (i == j) := by
  rw [Bool.eq_iff_iff]
  simp
theorem dec_byt {i j : Array UInt8} : decide (V.byt i = V.byt j) = (i.toList == j.toList) := by
  rw [Bool.eq_iff_iff]
  cases i
  cases j
  simp
section
variable {X : Cx} {a b c : Expr} {ta tb tc : TE} {pos : Pos}
theorem fin_bl {pins : List (Addr × Obj)} {σ : St} {H : Hp} {s : Shared} {Q : VK} {k k' : Bool} (I : Inv X pins σ H s) (q : Q (.bl k) H) (e : k = k') : EP X pins σ Q (.bool k') s := by
  subst e
  exact ⟨.bl k, H, I, rfl, q⟩
theorem op_eq : OpR X (compareOp .Eq) rEq := by
  intro pins s σ H x y v u Q I rx ry h
  obtain ⟨hs, q⟩ := h
  cases x with
  | non =>
    cases rx
    cases y with
    | non => cases ry; exact PySem.EqNone.eq_none_none (fin_bl I q (by simp))
    | bl j => cases ry; exact PySem.EqNone.eq_none_bool (fin_bl I q (by simp))
    | int j => obtain ⟨t', rfl⟩ := ry; exact PySem.EqNone.eq_none_int (fin_bl I q (by simp))
    | str j => obtain ⟨t', rfl⟩ := ry; exact PySem.EqNone.eq_none_str (fin_bl I q (by simp))
    | _ => exact absurd (show false = true from hs) Bool.false_ne_true
  | bl i =>
    cases rx
    cases y with
    | non => cases ry; exact PySem.EqNone.eq_bool_none (fin_bl I q (by simp))
    | bl j => cases ry; exact eq_bool (fin_bl I q dec_bl)
    | str j => obtain ⟨t', rfl⟩ := ry; exact PySem.EqMixed.eq_bool_str (fin_bl I q (by simp))
    | _ => exact absurd (show false = true from hs) Bool.false_ne_true
  | int i =>
    obtain ⟨t, rfl⟩ := rx
    cases y with
    | non => cases ry; exact PySem.EqNone.eq_int_none (fin_bl I q (by simp))
    | int j => obtain ⟨t', rfl⟩ := ry; exact eq_int (fin_bl I q dec_int)
    | str j => obtain ⟨t', rfl⟩ := ry; exact PySem.EqMixed.eq_int_str (fin_bl I q (by simp))
    | _ => exact absurd (show false = true from hs) Bool.false_ne_true
  | str i =>
    obtain ⟨t, rfl⟩ := rx
    cases y with
    | non => cases ry; exact PySem.EqNone.eq_str_none (fin_bl I q (by simp))
    | bl j => cases ry; exact PySem.EqMixed.eq_str_bool (fin_bl I q (by simp))
    | int j => obtain ⟨t', rfl⟩ := ry; exact PySem.EqMixed.eq_str_int (fin_bl I q (by simp))
    | str j => obtain ⟨t', rfl⟩ := ry; exact eq_str (fin_bl I q dec_str)
    | _ => exact absurd (show false = true from hs) Bool.false_ne_true
  | byt i =>
    obtain ⟨t, rfl⟩ := rx
    cases y with
    | byt j => obtain ⟨t', rfl⟩ := ry; exact PySem.W.eq_bytes (fin_bl I q dec_byt)
    | _ => exact absurd (show false = true from hs) Bool.false_ne_true
  | _ => cases y <;> exact absurd (show false = true from hs) Bool.false_ne_true
theorem op_ne : OpR X (compareOp .NotEq) rNe := by
  intro pins s σ H x y v u Q I rx ry h
  obtain ⟨hs, q⟩ := h
  cases x with
  | non =>
    cases rx
    cases y with
    | non => cases ry; exact PySem.EqNone.ne_none_none (fin_bl I q (by simp))
    | bl j => cases ry; exact PySem.EqNone.ne_none_bool (fin_bl I q (by simp))
    | int j => obtain ⟨t', rfl⟩ := ry; exact PySem.EqNone.ne_none_int (fin_bl I q (by simp))
    | str j => obtain ⟨t', rfl⟩ := ry; exact PySem.EqNone.ne_none_str (fin_bl I q (by simp))
    | _ => exact absurd (show false = true from hs) Bool.false_ne_true
  | bl i =>
    cases rx
    cases y with
    | non => cases ry; exact PySem.EqNone.ne_bool_none (fin_bl I q (by simp))
    | bl j => cases ry; exact ne_bool (fin_bl I q (congrArg not dec_bl))
    | str j => obtain ⟨t', rfl⟩ := ry; exact PySem.EqMixed.ne_bool_str (fin_bl I q (by simp))
    | _ => exact absurd (show false = true from hs) Bool.false_ne_true
  | int i =>
    obtain ⟨t, rfl⟩ := rx
    cases y with
    | non => cases ry; exact PySem.EqNone.ne_int_none (fin_bl I q (by simp))
    | int j => obtain ⟨t', rfl⟩ := ry; exact ne_int (fin_bl I q (congrArg not dec_int))
    | str j => obtain ⟨t', rfl⟩ := ry; exact PySem.EqMixed.ne_int_str (fin_bl I q (by simp))
    | _ => exact absurd (show false = true from hs) Bool.false_ne_true
  | str i =>
    obtain ⟨t, rfl⟩ := rx
    cases y with
    | non => cases ry; exact PySem.EqNone.ne_str_none (fin_bl I q (by simp))
    | bl j => cases ry; exact PySem.EqMixed.ne_str_bool (fin_bl I q (by simp))
    | int j => obtain ⟨t', rfl⟩ := ry; exact PySem.EqMixed.ne_str_int (fin_bl I q (by simp))
    | str j => obtain ⟨t', rfl⟩ := ry; exact ne_str (fin_bl I q (congrArg not dec_str))
    | _ => exact absurd (show false = true from hs) Bool.false_ne_true
  | byt i =>
    obtain ⟨t, rfl⟩ := rx
    cases y with
    | byt j => obtain ⟨t', rfl⟩ := ry; exact PySem.W.ne_bytes (fin_bl I q (congrArg not dec_byt))
    | _ => exact absurd (show false = true from hs) Bool.false_ne_true
  | _ => cases y <;> exact absurd (show false = true from hs) Bool.false_ne_true
theorem op_lt : OpR X (compareOp .Lt) (rI0 fun i j => .bl (decide (i < j))) := opB0 fun _ _ _ _ _ _ _ q => lt_int q
theorem op_le : OpR X (compareOp .LtE) (rI0 fun i j => .bl (decide (i <= j))) := opB0 fun _ _ _ _ _ _ _ q => le_int q
theorem op_gt : OpR X (compareOp .Gt) (rI0 fun i j => .bl (decide (j < i))) := opB0 fun _ _ _ _ _ _ _ q => gt_int q
theorem op_isN : OpR X (compareOp .Is) (fun x y H Q => y = .non /\ Q (.bl (decide (x = .non))) H) := by
  intro pins s σ H x y v u Q I rx ry h
  obtain ⟨rfl, q⟩ := h
  cases ry
  refine is_none_gen (fin_bl I q ?_)
  cases x <;> first
    | (cases rx; rfl)
    | (obtain ⟨t, rfl⟩ := rx; rfl)
theorem nomark (b : Expr) {op : CmpOp} (h : op ≠ .In := by decide) (h2 : op ≠ .NotIn := by decide) : behindInMarks op b = false := by
  have e1 : (op == CmpOp.In) = false := by cases op <;> first | rfl | exact absurd rfl h
  have e2 : (op == CmpOp.NotIn) = false := by cases op <;> first | rfl | exact absurd rfl h2
  cases b <;> simp [behindInMarks, e1, e2]
theorem pe_cmpR {op : CmpOp} {r : R2} (ho : OpR X (compareOp op) r) (ha : PE X a ta) (hb : PE X b tb) (hm : behindInMarks op b = false) : PE X (.Compare a [op] [b] pos) (tOp r ta tb) := by
  intro pins s σ H Q I h
  exact wpAny_Compare1 (binT ha hb I h fun v u s2 x y H2 I2 rx ry q => ho pins s2 σ H2 x y v u Q I2 rx ry q) hm
def tTest (t : TE) : TT := fun σ H Q => t σ H fun x H' => ∃ k, x = .bl k /\ Q k H'
theorem pt_cmpR {op : CmpOp} {r : R2} (ho : OpR X (compareOp op) r) (ha : PE X a ta) (hb : PE X b tb) (hm : behindInMarks op b = false) : PT X (.Compare a [op] [b] pos) (tTest (tOp r ta tb)) := by
  intro pins s σ H Q I h
  refine wpAny_isTrue_Compare1 (thn (ha pins s σ H _ I h) fun v s1 ⟨x, H1, I1, r1, q1⟩ => thn (hb pins s1 σ H1 _ I1 q1) fun u s2 ⟨y, H2, I2, r2, q2⟩ =>
    thn (ho pins s2 σ H2 x y v u _ I2 r1 r2 q2) fun c s3 ⟨z, H3, I3, r3, k, e, q3⟩ => ?_) hm
  subst e
  cases r3
  exact wpAny_truthy_bool ⟨H3, I3, q3⟩
def TruV (K : PySem.W.Frag) (x : V) (H : Hp) (k : Bool) : Prop :=
  match x with
  | .non => k = false
  | .bl b => k = b
  | .int i => k = (i != 0)
  | .str y => y.length <= sizeLine /\ k = ((y.length : Int) != 0)
  | .byt y => y.size <= sizeLine /\ k = ((y.size : Int) != 0)
  | .ref p => (∃ xs, SqL K H p xs /\ k = !xs.isEmpty) \/ (∃ xs, SqT K H p xs /\ k = !xs.isEmpty) \/ ∃ kvs, H p = some (.dK kvs) /\ k = !kvs.isEmpty
  | _ => False
theorem isEmpty_kv {κ : Type} {kvs : List (κ × V)} {vs : List (κ × Value)} (r : KV kvs vs) : (!vs.isEmpty) = !kvs.isEmpty := by
  cases r <;> rfl
theorem isEmpty_of {xs : List V} {its : List Value} (r : Vals xs its) : (!its.toArray.isEmpty) = !xs.isEmpty := by
  cases r <;> simp
theorem line63 : (sizeLine : Nat) < 2 ^ 63 := by rw [sizeLine_eq]; decide
theorem tru_ok : TruR X (fun x H Q => ∃ k, TruV X.K x H k /\ Q k H) := by
  intro pins s σ H x v Q I rx h
  obtain ⟨k, e, q⟩ := h
  have hl := line63
  have hs : sizeLine = 16777216 := sizeLine_eq
  cases x with
  | non =>
    cases rx
    have e' : k = false := e
    subst e'
    exact truthy_none ⟨H, I, q⟩
  | bl b =>
    cases rx
    have e' : k = b := e
    subst e'
    exact wpAny_truthy_bool ⟨H, I, q⟩
  | int i =>
    obtain ⟨t, rfl⟩ := rx
    have e' : k = (i != 0) := e
    subst e'
    exact PySem.P.truthy_int ⟨H, I, q⟩
  | str y =>
    obtain ⟨t, rfl⟩ := rx
    obtain ⟨hy, e'⟩ : y.length <= sizeLine /\ k = ((y.length : Int) != 0) := e
    subst e'
    exact PySem.P.truthy_str (by lia) ⟨H, I.tok _, q⟩
  | byt y =>
    obtain ⟨t, rfl⟩ := rx
    obtain ⟨hy, e'⟩ : y.size <= sizeLine /\ k = ((y.size : Int) != 0) := e
    subst e'
    exact PySem.W.truthy_bytes (by lia) ⟨H, I.tok _, q⟩
  | ref p =>
    cases rx
    have e' : (∃ xs, SqL X.K H p xs /\ k = !xs.isEmpty) \/ (∃ xs, SqT X.K H p xs /\ k = !xs.isEmpty) \/ ∃ kvs, H p = some (.dK kvs) /\ k = !kvs.isEmpty := e
    rcases e' with ⟨xs, hx, e'⟩ | ⟨xs, hx, e'⟩ | ⟨kvs, hx, e'⟩
    · subst e'
      obtain ⟨its, r, pl, hz⟩ := I.list hx
      have hlen := r.length
      exact wpAny_truthy_list pl.isList (by simp only [List.size_toArray]; lia) ⟨H, I.tok _, by rw [isEmpty_of r]; exact q⟩
    · subst e'
      obtain ⟨its, r, pl, hz⟩ := I.tuple hx
      have hlen := r.length
      exact truthy_tuple pl (by simp only [List.size_toArray]; lia) ⟨H, I.tok _, by rw [isEmpty_of r]; exact q⟩
    · subst e'
      obtain ⟨hz, hS, vs, r, m⟩ : kvs.length <= sizeLine /\ (p == sysModules) = false /\ ∃ vs, KV kvs vs /\ s.heap.DictOf (mixKind X.prog X.w) p vs := I.hok p _ hx
      have hlen : kvs.length = vs.length := Paired.length r
      exact wpAny_truthy_dict hS m (by lia) ⟨H, I.tok _, by rw [isEmpty_kv r]; exact q⟩
  | _ => exact (show False from e).elim
theorem pt_truth (ha : PE X a ta) (he : ∀ whole, isTrue a X.env whole = (do let v <- whole; standAt a.pos; holding [v] (truthy v))) :
    PT X a (fun σ H Q => ta σ H fun x H' => ∃ k, TruV X.K x H' k /\ Q k H') := by
  intro pins s σ H Q I h
  exact isTrue_plain (thn (ha pins s σ H _ I h) fun v s1 ⟨x, H1, I1, r1, q1⟩ => tru_ok pins s1 σ H1 x v Q I1 r1 q1) (he _)
theorem vals1 {x : V} {us : List Value} (r : Vals [x] us) : ∃ u, us = [u] /\ RelV x u := by
  cases r with
  | cons r1 r2 => cases r2; exact ⟨_, rfl, r1⟩
theorem vals2 {x y : V} {us : List Value} (r : Vals [x, y] us) : ∃ u w', us = [u, w'] /\ RelV x u /\ RelV y w' := by
  cases r with
  | cons r1 r2 =>
    cases r2 with
    | cons r3 r4 => cases r4; exact ⟨_, _, rfl, r1, r3⟩
theorem call_max2 (hc : X.calm = true) : CallR X (.builtin "max") (fun xs H Q => ∃ i j, xs = [.int i, .int j] /\ Q (.int (if j > i then j else i)) H) := by
  intro pins s σ H xs us Q I r h
  obtain ⟨i, j, rfl, q⟩ := h
  obtain ⟨u, w', rfl, ⟨t, rfl⟩, ⟨t', rfl⟩⟩ := vals2 r
  refine max_two_ints (I.ok.hd hc) fun h' tk k => ⟨_, H, I.kept k, ?_, q⟩
  by_cases hj : j > i
  · rw [if_pos hj, if_pos hj]; exact ⟨_, rfl⟩
  · rw [if_neg hj, if_neg hj]; exact ⟨_, rfl⟩
theorem call_min2 (hc : X.calm = true) : CallR X (.builtin "min") (fun xs H Q => ∃ i j, xs = [.int i, .int j] /\ Q (.int (if j < i then j else i)) H) := by
  intro pins s σ H xs us Q I r h
  obtain ⟨i, j, rfl, q⟩ := h
  obtain ⟨u, w', rfl, ⟨t, rfl⟩, ⟨t', rfl⟩⟩ := vals2 r
  refine min_two_ints (I.ok.hd hc) fun h' tk k => ⟨_, H, I.kept k, ?_, q⟩
  by_cases hj : j < i
  · rw [if_pos hj, if_pos hj]; exact ⟨_, rfl⟩
  · rw [if_neg hj, if_neg hj]; exact ⟨_, rfl⟩
theorem call_str_int : CallR X (.type "str") (fun xs H Q => ∃ i, xs = [.int i] /\ i.natAbs.log2 < 1920 /\ Q (.str (toString i)) H) := by
  intro pins s σ H xs us Q I r h
  obtain ⟨i, rfl, hz, q⟩ := h
  obtain ⟨u, rfl, t, rfl⟩ := vals1 r
  exact PySem.P.str_of_int hz ⟨.str _, H, I.tok _, ⟨_, rfl⟩, q⟩
end
structure ObjM (h : Heap) (x dx C : Addr) (mA : Str -> Option Value) : Prop where
  obj : h.get? x = some (PySem.W.instObj C dx)
  ns : h.Ns1 dx mA
  ne : dx ≠ x
theorem lookIn_ns {h : Heap} {dx : Addr} {mA : Str -> Option Value} (n : h.Ns1 dx mA) : ∃ od, h.get? dx = some od /\ ∀ name, PySem.W.lookIn name od = some (mA name) := by
  obtain ⟨o, es, ep, ho, hd, hk, _, hm⟩ := n
  refine ⟨o, ho, fun name => ?_⟩
  have e := hm name
  unfold nsFind findBy at e
  rw [<- Array.find?_toList] at e
  unfold PySem.W.lookIn
  rw [hd]
  dsimp only
  split
  · rename_i y q
    rw [q] at e
    exact congrArg some e
  · rename_i q
    rw [q] at e
    have a : es.toList.any (·.refKey) = false := by
      rw [List.any_eq_false]
      intro y hy
      obtain ⟨z, t, hkey⟩ := hk y (Array.mem_toList_iff.mp hy)
      simp [DictEntry.refKey, hkey]
    have a' : ¬ es.toList.any (·.refKey) = true := by rw [a]; exact Bool.false_ne_true
    rw [if_neg a']
    exact congrArg some e
theorem ObjM.look {h : Heap} {x dx C : Addr} {mA : Str -> Option Value} (I : ObjM h x dx C mA) : ∃ od, PySem.W.InstAt h x (PySem.W.instObj C dx) C (some od) /\ ∀ name, PySem.W.lookIn name od = some (mA name) :=
  let ⟨od, ho, hl⟩ := lookIn_ns I.ns
  ⟨od, ⟨I.obj, rfl, rfl, ho⟩, hl⟩
section
variable {prog : Program} {w : World} {A : Around} {E : Value -> Shared -> Prop} {s : Shared} {K : PySem.W.Frag} {x dx C f : Addr} {mA : Str -> Option Value} {name : Str} {v : Value}
end
theorem RelO.some_of {v : V} {o : Option Value} (r : RelO (some v) o) : ∃ u, o = some u /\ RelV v u := by
  cases o with
  | none => exact (show False from r).elim
  | some u => exact ⟨u, rfl, r⟩
section
variable {P : Program} {w : World} {H H' : Hp} {h h' : Heap} {a C dx : Addr} {fs fs' : List (Str × V)}
theorem ins_get (hok : HOk P w H h) (e : H a = some (.ins C dx fs)) : ∃ mA, ObjM h a dx C mA /\ (∀ f, RelO (fs.lookup f) (mA f)) /\ PySem.Within mA (fs.map (·.1)) /\ fs.length <= 1000 /\ H dx = some (.own a) := by
  obtain ⟨d, z, ne, ob, mA, n, r, q⟩ := (show ObjOk P w H h a (.ins C dx fs) from hok a _ e)
  exact ⟨mA, ⟨ob, n, ne⟩, r, q, z, d⟩
end
structure Cls (K : PySem.W.Frag) (C : Addr) : Prop where
  pg : PySem.W.plainGet K C Str.empty = true
  hd : PySem.W.hasDictIn K C = true
  po : PySem.W.plainOver K C = true
  sa : PySem.W.findIn K (.ref C) "__setattr__" = some (some (.builtin "object.__setattr__"))
theorem Cls.get {K : PySem.W.Frag} {C : Addr} (c : Cls K C) (f : Str) : PySem.W.plainGet K C f = true := c.pg
section
variable {X : Cx} {pins : List (Addr × Obj)} {σ : St} {H : Hp} {s : Shared} {a C dx : Addr} {fs : List (Str × V)} {f : Str} {v : V} {A : Around} {E : Value -> Shared -> Prop}
theorem attr_of {prog : Program} {w : World} {env : Env} {e : Expr} {f : Str} {pos : Pos} {s : Shared} {Q : Value -> Shared -> Prop} (hb : attributeBase e f env (eval e env) = eval e env)
    (h : wpAny (model prog w) A (eval e env) (fun o s₁ => wpAny (model prog w) A (getAttr o f true) Q E s₁) E s) : wpAny (model prog w) A (eval (.Attribute e f pos) env) Q E s :=
  Attribute_any_ h (by rw [arm_eval_Attribute, hb])
end
section
variable {X : Cx} {o e value : Expr} {f : Str} {pos pos' tpos : Pos} {ta tv : TE}
end
section
variable {X : Cx} {pins : List (Addr × Obj)} {σ : St} {H : Hp} {s : Shared} {A : Around} {E : Value -> Shared -> Prop} {Q : Value -> Shared -> Prop} {c : Value} {b : Bool}
inductive TyOf (K : PySem.W.Frag) (H : Hp) : V -> Value -> Prop where
  | non : TyOf K H .non (.type "NoneType")
  | bl (x : Bool) : TyOf K H (.bl x) (.type "bool")
  | int (i : Int) : TyOf K H (.int i) (.type "int")
  | str (x : Str) : TyOf K H (.str x) (.type "str")
  | flt (x : UInt64) : TyOf K H (.flt x) (.type "float")
  | lst {a : Addr} {xs : List V} (e : H a = some (.lst xs)) : TyOf K H (.ref a) (.type "list")
  | frz {a : Addr} {o : Obj} {xs : List V} (e : H a = some (.frz o (.lst xs))) : TyOf K H (.ref a) (.type "list")
  | tup {a : Addr} {xs : List V} (e : H a = some (.tup xs)) : TyOf K H (.ref a) (.type "tuple")
  | dK {a : Addr} {kvs : List (Key × V)} (e : H a = some (.dK kvs)) : TyOf K H (.ref a) (.type "dict")
  | dT {a : Addr} {kvs : List (List Key × V)} (e : H a = some (.dT kvs)) : TyOf K H (.ref a) (.type "dict")
  | ins {a C dx : Addr} {fs : List (Str × V)} (e : H a = some (.ins C dx fs)) (cl : Cls K C) (ha : PySem.W.findIn K (.ref C) "__class__" = some (some (.builtin "object.__class__")))
      (hn : PySem.W.specialIn K (.builtin "object.__class__") "__get__" = some (some (.builtin "getset_descriptor.__get__"))) (htk : PySem.W.takesIn K (.builtin "object.__class__") = some true)
      (hm : PySem.W.mroIn K C (.type "object") = some true) : TyOf K H (.ref a) (.ref C)
theorem isinst_ok {x : V} {u t : Value} (I : Inv X pins σ H s) (rx : RelV x u) (ty : TyOf X.K H x t) (e : PySem.W.kitOne X.K t c = some b) (h : ∀ tk, Q (.bool b) { s with toks := tk }) :
    wpAny (model X.prog X.w) A (call (.builtin "isinstance") [u, c]) Q E s := by
  cases ty with
  | non => cases (show u = Value.none from rx); exact PySem.W.kia_one PySem.W.kitx_none I.kIn True.intro e (fun z => nomatch z) h
  | bl y => cases (show u = Value.bool y from rx); exact PySem.W.kia_one PySem.W.kitx_bool I.kIn True.intro e (fun z => nomatch z) h
  | int i => obtain ⟨t, q⟩ := (show ∃ t, u = Value.int i t from rx); cases q; exact PySem.W.kia_one PySem.W.kitx_int I.kIn True.intro e (fun z => nomatch z) h
  | str y => obtain ⟨t, q⟩ := (show ∃ t, u = Value.str y t from rx); cases q; exact PySem.W.kia_one PySem.W.kitx_str I.kIn True.intro e (fun z => nomatch z) h
  | flt y => obtain ⟨t, q⟩ := (show ∃ t, u = Value.float y t from rx); cases q; exact PySem.W.kia_one PySem.W.kitx_float I.kIn True.intro e (fun z => nomatch z) h
  | @lst a xs ea =>
    cases (show u = Value.ref a from rx)
    obtain ⟨_, _, n, _, h1⟩ := (show ObjOk X.prog X.w H s.heap a (.lst xs) from I.hok a _ ea)
    exact PySem.W.kia_one PySem.W.kitx_list I.kIn ⟨_, h1, rfl⟩ e (fun z => nomatch z) h
  | @frz a ob xs ea =>
    cases (show u = Value.ref a from rx)
    obtain ⟨_, _, _, n, _, h1⟩ := (show ObjOk X.prog X.w H s.heap a (.frz ob (.lst xs)) from I.hok a _ ea)
    exact PySem.W.kia_one PySem.W.kitx_list I.kIn ⟨_, h1, rfl⟩ e (fun z => nomatch z) h
  | @tup a xs ea =>
    cases (show u = Value.ref a from rx)
    obtain ⟨_, _, _, p⟩ := (show ObjOk X.prog X.w H s.heap a (.tup xs) from I.hok a _ ea)
    obtain ⟨o, h1, h2, _⟩ := p
    exact PySem.W.kia_one PySem.W.kitx_tuple I.kIn ⟨o, h1, h2⟩ e (fun z => nomatch z) h
  | @dK a kvs ea =>
    cases (show u = Value.ref a from rx)
    obtain ⟨_, _, vs, _, p⟩ := (show ObjOk X.prog X.w H s.heap a (.dK kvs) from I.hok a _ ea)
    obtain ⟨o, es, ep, h1, h2, _⟩ := p
    exact PySem.W.kia_one PySem.W.kitx_dict I.kIn ⟨o, h1, h2.1⟩ e (fun z => nomatch z) h
  | @dT a kvs ea =>
    cases (show u = Value.ref a from rx)
    obtain ⟨_, _, xs, _, o, es, ep, h1, h2, _⟩ := (show ObjOk X.prog X.w H s.heap a (.dT kvs) from I.hok a _ ea)
    exact PySem.W.kia_one PySem.W.kitx_dict I.kIn ⟨o, h1, h2.1⟩ e (fun z => nomatch z) h
  | @ins a C dx fs ea cl ha hn htk hm =>
    cases (show u = Value.ref a from rx)
    obtain ⟨mA, O, _⟩ := ins_get I.hok ea
    obtain ⟨od, J, _⟩ := O.look
    exact PySem.W.kia_one (PySem.W.kitx_own (cl.get _) cl.hd ha hn htk hm) I.kIn J e (fun z => nomatch z) h
end
structure Room (k : Nat) (A : Around) : Prop where
  hd : A.handled = none
  dp : A.depth + 3 * k + 5 < recursionLimit
  un : A.units + 16 * k + 200 < cLine
theorem Room.mono {j k : Nat} {A : Around} (r : Room k A) (h : j <= k) : Room j A := ⟨r.hd, by have := r.dp; lia, by have := r.un; lia⟩
theorem Room.deeper {k : Nat} {A : Around} (r : Room (k + 1) A) (env : Env) : Room k (A.deeper env) :=
  ⟨r.hd, by have := r.dp; show A.depth + 1 + 3 * k + 5 < _; lia, by have := r.un; show A.units + 3 + 16 * k + 200 < _; lia⟩
theorem make_depth {A : Around} {C : Addr} {us : List Value} {kw : List (Str × Value)} : (A.under (.builtin "type.__call__" ⟨.ref C :: us, kw⟩)).depth = A.depth + 1 := by
  first | rfl | simp [Around.under, Code.weight, Code.isCreation, Code.isGuard, Code.isCaller, Code.frames, Code.isFrame, guardIds]
theorem make_units {A : Around} {C : Addr} {us : List Value} {kw : List (Str × Value)} : (A.under (.builtin "type.__call__" ⟨.ref C :: us, kw⟩)).units = A.units + 1 := by
  first | rfl | simp [Around.under, Code.cUnits, Code.frames, Code.isFrame]
theorem Room.make {k : Nat} {A : Around} (r : Room (k + 1) A) (C : Addr) (us : List Value) (kw : List (Str × Value)) : Room k (A.under (.builtin "type.__call__" ⟨.ref C :: us, kw⟩)) :=
  ⟨r.hd, by have := r.dp; rw [make_depth]; lia, by have := r.un; rw [make_units]; lia⟩
theorem Room.depth {k : Nat} {A : Around} (r : Room k A) : A.depth < recursionLimit := by have := r.dp; lia
theorem Room.units {k : Nat} {A : Around} (r : Room k A) : A.units + 64 < cLine := by have := r.un; lia
def tNil : TA := fun _ H Q => Q [] H
def tCons (ta : TE) (tr : TA) : TA := fun σ H Q => ta σ H fun x H1 => tr σ H1 fun xs H2 => Q (x :: xs) H2
section
variable {X : Cx} {e : Expr} {es : List Expr} {te : TE} {t : TA} {pos : Pos}
theorem pa_nil : PA X [] tNil := fun _ _ _ _ H Q I h => Calls.spliced_nil ⟨[], H, I, .nil, h⟩
theorem pa_cons (ha : PE X e te) (hr : PA X es t) (hs : starEach (e :: es) X.env = (false, eval e X.env) :: starEach es X.env := by rfl) : PA X (e :: es) (tCons te t) := by
  intro pos pins s σ H Q I h
  rw [hs]
  show wpAny _ _ (spliced ((false, eval e X.env) :: backTo pos (starEach es X.env))) _ _ s
  refine Calls.spliced_cons (thn (ha pins s σ H _ I h) fun u s1 ⟨x, H1, I1, r1, q1⟩ => ?_)
  exact thn (hr pos pins s1 σ H1 _ I1 q1) fun us s2 ⟨xs, H2, I2, r2, q2⟩ => ⟨x :: xs, H2, I2, .cons r1 r2, q2⟩
def tTup (t : TA) : TE := fun σ H Q => t σ H fun xs H1 => xs.length <= sizeLine /\ ∀ p, H1 p = none -> Q (.ref p) (upd H1 p (.tup xs))
def tLst (t : TA) : TE := fun σ H Q => t σ H fun xs H1 => xs.length <= sizeLine /\ ∀ p, H1 p = none -> Q (.ref p) (upd H1 p (.lst xs))
theorem pe_tup {x1} (h : PA X es t) : PE X (.Tuple es x1 pos) (tTup t) := by
  intro pins s σ H Q I hq
  refine wpAny_Tuple_spliced (thn (h pos pins s σ H _ I hq) fun us s1 ⟨xs, H1, I1, r, z, q⟩ => ⟨by rw [<- r.length]; exact z, ?_⟩)
  have hf : H1 s1.heap.objs.size = none := I1.hok.fresh (Nat.le_refl _)
  refine ⟨.ref s1.heap.objs.size, upd H1 s1.heap.objs.size (.tup xs), I1.laid (t' := s1.toks) (fun b u e => Heap.get?_push_of_some _ e) (Nat.le_refl _) ?_, rfl, q _ hf⟩
  exact ⟨z, us, r, ⟨_, Heap.get?_push_size _ rfl, rfl, _, rfl⟩⟩
theorem pe_lst (h : PA X es t) : PE X (.List es pos) (tLst t) := by
  intro pins s σ H Q I hq
  refine wpAny_List_spliced (thn (h pos pins s σ H _ I hq) fun us s1 ⟨xs, H1, I1, r, z, q⟩ => ⟨by rw [<- r.length]; exact z, ?_⟩)
  have hf : H1 s1.heap.objs.size = none := I1.hok.fresh (Nat.le_refl _)
  refine ⟨.ref s1.heap.objs.size, upd H1 s1.heap.objs.size (.lst xs), I1.laid (t' := s1.toks) (fun b u e => Heap.get?_push_of_some _ e) (Nat.le_refl _) ?_, rfl, q _ hf⟩
  exact ⟨z, us, 0, r, Heap.get?_push_size _ rfl⟩
end
abbrev Sp := List V -> Hp -> VK -> XK -> Prop
abbrev CXT := List Env -> Hp -> Shared -> XK -> Value -> Shared -> Prop
structure Env0 (P : Program) (w : World) (K : PySem.W.Frag) (mg : Str -> Option Value) (base : Heap) (A : Around) (outer : List Env) (s : Shared) (H : Hp) : Prop where
  frames : A.frames = some outer
  mod : Mod K mg base
  bs : ∀ b o, base.get? b = some o -> s.heap.get? b = some o /\ H b = none
  bsz : base.objs.size <= s.heap.objs.size
  funs : s.heap.FunFrames base outer
  frf : ∀ b ∈ frs outer, H b = none
  hok : HOk P w H s.heap
  bare : AllBare s.gens
def CE (outer : List Env) (P : Program) (w : World) (H : Hp) (s : Shared) (Q : VK) (u : Value) (s' : Shared) : Prop :=
  ∃ v H', s'.os = s.os /\ AllBare s'.gens /\ Un (frs outer) [] H H' s.heap s'.heap /\ HOk P w H' s'.heap /\ RelV v u /\ Q v H'
def CR (CX : CXT) (outer : List Env) (P : Program) (w : World) (H : Hp) (s : Shared) (Q : VK) (E : XK) (r : Result) (s' : Shared) : Prop :=
  match r with
  | .ok (.ret u) => CE outer P w H s Q u s'
  | .ok _ => False
  | .error e => CX outer H s E e s'
structure FnOk (P : Program) (w : World) (K : PySem.W.Frag) (mg : Str -> Option Value) (base : Heap) (CX : CXT) (k : Nat) (f : Addr) (fd : FuncData) (ps : List Str) (sp : Sp) : Prop where
  len : ∀ vs H Q E, sp vs H Q E -> vs.length = ps.length
  run : ∀ (A : Around) (outer : List Env) (s : Shared) (H : Hp) (args : Args) (us : List Value) (vs : List V) (Q : VK) (E : XK), Room k A -> Env0 P w K mg base A outer s H -> BindsTo s fd args (ps.zip us) -> Vals vs us -> sp vs H Q E ->
    codeAny (model P w) A (.call (.ref f) args) (CR CX outer P w H s Q E) s
theorem Env0.make {P : Program} {w : World} {K : PySem.W.Frag} {mg : Str -> Option Value} {base : Heap} {A : Around} {outer : List Env} {s : Shared} {H : Hp} (e : Env0 P w K mg base A outer s H) (C : Addr) (us : List Value) (kw : List (Str × Value)) :
    Env0 P w K mg base (A.under (.builtin "type.__call__" ⟨.ref C :: us, kw⟩)) outer s H := ⟨by first | exact e.frames | (simpa [Around.under, Code.envs, Code.isFrame, pushEnvs] using e.frames), e.mod, e.bs, e.bsz, e.funs, e.frf, e.hok, e.bare⟩
section
variable {X : Cx} {pins : List (Addr × Obj)} {σ : St} {H : Hp} {s s' : Shared}
theorem Inv.env0 (I : Inv X pins σ H s) : Env0 X.prog X.w X.K X.mg X.base X.A X.stack s H :=
  ⟨I.ok.frames, I.ok.mod, I.bs, Nat.le_trans I.ok.bsz I.sz, I.stack, I.stkFree, I.hok, I.bare⟩
theorem Inv.after {Q : VK} {u : Value} (I : Inv X pins σ H s) (h : CE X.stack X.prog X.w H s Q u s') : EP X pins σ Q u s' := by
  obtain ⟨v, H', os, bare, un, hok, r, q⟩ := h
  obtain ⟨hh, g, d, t, os'⟩ := s'
  obtain rfl : os' = s.os := os
  exact ⟨v, H', I.call (h' := hh) (g' := g) (d' := d) (t' := t) (ch := []) un hok bare (fun b z => absurd z (by simp)), r, q⟩
end
def tCall (sp : Sp) (dvs : List V) (E : XK) (t : TA) : TE := fun σ H Q => t σ H fun vs H1 => sp (vs ++ dvs) H1 Q E
def Binds (K : PySem.W.Frag) (fd : FuncData) (ps : List Str) (ds : List Value) : Prop :=
  ∀ (s : Shared) (us : List Value), K.In s.heap -> (us ++ ds).length = ps.length -> BindsTo s fd ⟨us, []⟩ (ps.zip (us ++ ds))
theorem Binds.all {K : PySem.W.Frag} {fd : FuncData} {ps : List Str} (h : ∀ us : List Value, us.length = ps.length -> bindArgs fd ⟨us, []⟩ = pure (ps.zip us)) : Binds K fd ps [] := fun s us _ hl => by
  rw [List.append_nil] at hl ⊢
  exact .of_eq (h us hl)
def Passes (CX : CXT) (X : Cx) (E : XK) : Prop := ∀ (pins : List (Addr × Obj)) (σ : St) (H : Hp) (s : Shared) (e : Value) (s' : Shared), Inv X pins σ H s -> CX X.stack H s E e s' -> X.xe e s'
section
variable {X : Cx} {CX : CXT} {k : Nat} {f C : Addr} {fd : FuncData} {ps : List Str} {sp : Sp} {dvs : List V} {ds : List Value} {E : XK} {x m : Str} {p pos apos : Pos} {e o : Expr} {es : List Expr} {ta : TE} {t : TA}
theorem run_fn {pins : List (Addr × Obj)} {σ : St} {H : Hp} {s : Shared} {Q : VK} {us : List Value} {vs : List V} (F : FnOk X.prog X.w X.K X.mg X.base CX k f fd ps sp) (hr : Room k X.A) (hb : Binds X.K fd ps ds) (hd : Vals dvs ds) (hx : Passes CX X E)
    (I : Inv X pins σ H s) (r : Vals vs us) (h : sp (vs ++ dvs) H Q E) : wpAny (model X.prog X.w) X.A (call (.ref f) us) (EP X pins σ Q) X.xe s := by
  have r2 : Vals (vs ++ dvs) (us ++ ds) := r.append hd
  have hl : (us ++ ds).length = ps.length := by rw [<- r2.length]; exact F.len _ _ _ _ h
  refine wpAny_call (codeAny_mono (F.run X.A X.stack s H ⟨us, []⟩ (us ++ ds) (vs ++ dvs) Q E hr I.env0 (hb s us I.kIn hl) r2 h) fun r s' hq => ?_)
  cases r with
  | error e => exact hx pins σ H s e s' I hq
  | ok fl =>
    cases fl with
    | ret u => exact I.after hq
    | next => exact False.elim hq
    | brk => exact False.elim hq
    | cont => exact False.elim hq
theorem pe_call (F : FnOk X.prog X.w X.K X.mg X.base CX k f fd ps sp) (hr : Room k X.A) (hg : Gl X x) (hm : X.mg x = some (.ref f)) (hk : PySem.W.keepIn X.K (.ref f) = true) (hb : Binds X.K fd ps ds) (hd : Vals dvs ds) (hx : Passes CX X E)
    (ha : PA X (e :: es) t) (hdb : (x == ("__debug__" : Str)) = false := by decide) (he : starEach (e :: es) X.env = (false, eval e X.env) :: starEach es X.env := by rfl) (hpl : (backTo pos (starEach es X.env)).any (·.1) = false := by rfl) :
    PE X (.Call (.Name x p) (e :: es) [] pos) (tCall sp dvs E t) := by
  intro pins s σ H Q I h
  refine wpAny_Call_Name_kw (ld_glob I hg hm ?_ hdb)
  refine PySem.W.callWith_K (h₀ := X.base) I.ok.mod.kin hk (thn (ha pos pins s σ H _ I h) fun us s1 ⟨vs, H1, I1, r, q⟩ => ⟨I1.kIn, ?_⟩) he hpl
  exact run_fn F hr hb hd hx I1 r q
end
section
variable {X : Cx} {CX : CXT} {k : Nat} {f C : Addr} {fd : FuncData} {ps ks : List Str} {sp : Sp} {E : XK} {x m : Str} {p pos apos kpos : Pos} {e o : Expr} {es : List Expr} {kws : List Keyword} {te ta : TE} {t tk : TA} {nm : Option Str}
variable {g : List Value -> List Value -> List Value} {gV : List V -> List V -> List V}
end
structure FnScope (N P : List Str) (sc : Scope) : Prop where
  kind : sc.kind = .function
  co : sc.isCoroutine = false
  gen : sc.isGenerator = false
  nd : N.Nodup
  pre : N.take P.length = P
  par : ∀ x ∈ P, sc.names.lookup x = some .local \/ sc.names.lookup x = some .cell
  nofree : ∀ y ∈ sc.names, y.2 ≠ .free
theorem bindL_out {kindOf : Str -> Option NameKind} {x : Str} : ∀ {binds : List (Str × Value)} {m : Str -> Option Value}, (∀ v, (x, v) ∉ binds) -> bindL kindOf binds m x = m x
  | [], _, _ => rfl
  | (n, v) :: r, m, h => by
    unfold bindL
    rw [bindL_out fun w hw => h w (List.mem_cons_of_mem _ hw)]
    split
    · have : x ≠ n := by rintro rfl; exact h v List.mem_cons_self
      simp [this]
    · rfl
theorem bindC_out {kindOf : Str -> Option NameKind} {x : Str} : ∀ {binds : List (Str × Value)} {m : Str -> Option Value}, (∀ v, (x, v) ∉ binds) -> bindC kindOf binds m x = m x
  | [], _, _ => rfl
  | (n, v) :: r, m, h => by
    unfold bindC
    rw [bindC_out fun w hw => h w (List.mem_cons_of_mem _ hw)]
    split
    · rfl
    · have : x ≠ n := by rintro rfl; exact h v List.mem_cons_self
      simp [this]
theorem bindL_get {kindOf : Str -> Option NameKind} {x : Str} {v : Value} : ∀ {P : List Str} {vs : List Value} {i : Nat} {m : Str -> Option Value}, P.Nodup -> P[i]? = some x -> vs[i]? = some v -> kindOf x = some .local ->
    bindL kindOf (P.zip vs) m x = some v
  | [], _, _, _, _, h, _, _ => by simp at h
  | _ :: _, [], _, _, _, _, h, _ => by simp at h
  | p :: P, w :: vs, 0, m, nd, h1, h2, hk => by
    simp at h1 h2; subst h1; subst h2
    show bindL kindOf ((p, w) :: P.zip vs) m p = _
    unfold bindL
    rw [bindL_out fun v hv => (List.nodup_cons.mp nd).1 (List.of_mem_zip hv).1, if_pos hk]
    simp
  | p :: P, w :: vs, i + 1, m, nd, h1, h2, hk => by
    show bindL kindOf ((p, w) :: P.zip vs) m x = _
    unfold bindL
    exact bindL_get (i := i) (List.nodup_cons.mp nd).2 (by simpa using h1) (by simpa using h2) hk
theorem bindC_get {kindOf : Str -> Option NameKind} {x : Str} {v : Value} : ∀ {P : List Str} {vs : List Value} {i : Nat} {m : Str -> Option Value}, P.Nodup -> P[i]? = some x -> vs[i]? = some v -> kindOf x ≠ some .local ->
    bindC kindOf (P.zip vs) m x = some v
  | [], _, _, _, _, h, _, _ => by simp at h
  | _ :: _, [], _, _, _, _, h, _ => by simp at h
  | p :: P, w :: vs, 0, m, nd, h1, h2, hk => by
    simp at h1 h2; subst h1; subst h2
    show bindC kindOf ((p, w) :: P.zip vs) m p = _
    unfold bindC
    rw [bindC_out fun v hv => (List.nodup_cons.mp nd).1 (List.of_mem_zip hv).1, if_neg hk]
    simp
  | p :: P, w :: vs, i + 1, m, nd, h1, h2, hk => by
    show bindC kindOf ((p, w) :: P.zip vs) m x = _
    unfold bindC
    exact bindC_get (i := i) (List.nodup_cons.mp nd).2 (by simpa using h1) (by simpa using h2) hk
def start (N : List Str) (vs : List V) : St := vs.map some ++ List.replicate (N.length - vs.length) none
def cxOf (CX : CXT) (P : Program) (w : World) (K : PySem.W.Frag) (mg : Str -> Option Value) (base : Heap) (N : List Str) (qual : Str) (scope : Scope) (f : Addr) (cd : Value) (A : Around) (outer : List Env) (s : Shared) (H : Hp) (E : XK) : Cx where
  prog := P
  w := w
  K := K
  mg := mg
  base := base
  A := A.deeper (envOfC qual scope s.heap.objs.size f cd)
  N := N
  s₀ := s
  H₀ := H
  env := envOfC qual scope s.heap.objs.size f cd
  outer := outer
  stack := envOfC qual scope s.heap.objs.size f cd :: outer
  ex := []
  calm := true
  fn := fun _ => true
  pn := []
  xe := fun e s' => wpAny (model P w) (A.deeper (envOfC qual scope s.heap.objs.size f cd)) (leaving (envOfC qual scope s.heap.objs.size f cd) e) (fun _ s'' => CX outer H s E e s'') (fun e' s'' => CX outer H s E e' s'') s'
theorem cell_has {sc : Scope} {n : Nat} {x : Str} (h : sc.names.lookup x = some .cell) : ∃ c, (cellsFrom n sc.names []).lookup x = some c := by
  have q := PySem.W.cellsFrom_some sc.names n [] (.inl h)
  exact Option.isSome_iff_exists.mp q
theorem inv_start {CX : CXT} {P : Program} {w : World} {K : PySem.W.Frag} {mg : Str -> Option Value} {base : Heap} {N ps : List Str} {qual : Str} {scope : Scope} {f : Addr} {cd : Value} {A : Around} {outer : List Env} {s s1 : Shared} {H : Hp} {E : XK} {us : List Value} {vs : List V}
    (S : FnScope N ps scope) (hd : A.handled = none) (e0 : Env0 P w K mg base A outer s H) (hl : vs.length = ps.length) (r : Vals vs us)
    (x : InCallC s s.heap.objs.size (bindL (envOfC qual scope s.heap.objs.size f cd).kindOf (ps.zip us) fun _ => none) (cellsFrom (s.heap.objs.size + 1) scope.names []) (bindC (envOfC qual scope s.heap.objs.size f cd).kindOf (ps.zip us) fun _ => none) s1) :
    Inv (cxOf CX P w K mg base N qual scope f cd A outer s H E) [] (start N vs) H s1 := by
  have hpl : ps.length <= N.length := by have := congrArg List.length S.pre; rw [List.length_take] at this; lia
  obtain ⟨h1, tk, rfl, hk⟩ := x.done
  have noA : ∀ b : Addr, b ∉ (cxOf CX P w K mg base N qual scope f cd A outer s H E).ex := fun b z => absurd (show b ∈ ([] : List Addr) from z) (by simp)
  refine ⟨⟨e0.mod, S.kind, rfl, rfl, Nat.le_refl _, fun y z c h1 h2 => ?_, fun y hy => ?_, fun y c _ h => ?_, fun _ => hd, Around.frames_deeper e0.frames, .inr ⟨rfl, rfl⟩, fun b z => absurd z (noA b), e0.bs, e0.bsz, fun b _ _ => noA b, fun b z => absurd z (noA b), e0.funs, e0.frf⟩,
    rfl, e0.bare, Un.kept hk, ⟨_, x.toInCall.ns, fun i y v h1 h2 h3 => ?_⟩, fun y c h => ⟨_, x.cell y c h⟩, e0.hok.fresh (Nat.le_refl _), fun y c h => ?_, fun p hp => absurd (show p ∈ ([] : List (Addr × Obj)) from hp) (by simp), e0.hok.kept hk, ?_⟩
  · exact name_of_addr x.apart (PySem.mem_of_lookup h1) (PySem.mem_of_lookup h2)
  · have hy : scope.names.lookup y = some .cell \/ scope.names.lookup y = some .free := hy
    rcases hy with hy | hy
    · exact cell_has hy
    · exact absurd rfl (S.nofree _ (PySem.mem_of_lookup hy))
  · exact Nat.le_of_lt (x.above y c (PySem.mem_of_lookup h))
  · have hi : i < vs.length := by
      unfold start at h2
      by_cases hi : i < vs.length
      · exact hi
      · rw [List.getElem?_append_right (by simpa using hi)] at h2
        rw [List.getElem?_replicate] at h2
        split at h2 <;> cases h2
    have ha : vs[i]? = some v := by
      unfold start at h2
      rw [List.getElem?_append_left (by simpa using hi), List.getElem?_map] at h2
      cases e : vs[i]? with
      | none => rw [e] at h2; cases h2
      | some a => rw [e] at h2; cases h2; rfl
    obtain ⟨u, hu, rv⟩ := r.get ha
    have hp : ps[i]? = some y := by
      rw [<- S.pre, List.getElem?_take_of_lt (by lia)]; exact h1
    have ndP : ps.Nodup := by rw [<- S.pre]; exact S.nd.sublist (List.take_sublist _ _)
    refine ⟨u, rv, ?_⟩
    rcases S.par y (List.mem_of_getElem? hp) with k | k
    · exact .inl ⟨k, bindL_get ndP hp hu k⟩
    · obtain ⟨c, e⟩ := cell_has (n := s.heap.objs.size + 1) k
      refine .inr ⟨.inl k, c, e, ?_⟩
      have q := x.cell y c e
      rw [bindC_get ndP hp hu (by show scope.names.lookup y ≠ _; rw [k]; decide)] at q
      exact q
  · exact e0.hok.fresh (Nat.le_of_lt (x.above y c (PySem.mem_of_lookup h)))
  · unfold start
    show _ = N.length
    rw [List.length_append, List.length_map, List.length_replicate]
    lia
theorem fn_of {CX : CXT} {P : Program} {w : World} {K : PySem.W.Frag} {mg : Str -> Option Value} {base : Heap} {k : Nat} {f : Addr} {name qual : Str} {params : Arguments} {body : List Stmt} {scope : Scope} {dV kV doc pm cdv ct oc : Value} {an od : Option Addr}
    {osl : Array (Option Value)} {N ps : List Str} {sp : Sp} (lk : K.lookup f = some ⟨oc, od, .func (PySem.W.fnOf name qual params body scope dV kV doc pm an cdv ct), osl⟩) (hcd : PySem.W.codeIn K cdv qual = true) (S : FnScope N ps scope)
    (len : ∀ vs H Q E, sp vs H Q E -> vs.length = ps.length)
    (hbody : ∀ (A : Around) (outer : List Env) (s : Shared) (H : Hp) (vs : List V) (Q : VK) (E : XK), Room k (A.deeper (envOfC qual scope s.heap.objs.size f cdv)) -> sp vs H Q E ->
      ∃ t, PSs (cxOf CX P w K mg base N qual scope f cdv A outer s H E) body t /\ t { nx := fun _ H' => Q .non H', rt := Q } (start N vs) H) :
    FnOk P w K mg base CX (k + 1) f (PySem.W.fnOf name qual params body scope dV kV doc pm an cdv ct) ps sp := by
  refine ⟨len, fun A outer s H args us vs Q E hr e0 hb r hsp => ?_⟩
  have hl := len _ _ _ _ hsp
  have KX : K.In s.heap := e0.mod.kin.keeps fun b o e => (e0.bs b o e).1
  have lim : s.heap.NoLimit := e0.mod.nolimit.keeps fun b o e => (e0.bs b o e).1
  have hkind : ∀ y ∈ ps.zip us, scope.names.lookup y.1 = some .local \/ (scope.names.lookup y.1 = some .cell /\ ((cellsFrom (s.heap.objs.size + 1) scope.names []).lookup y.1).isSome = true) := fun ⟨n, v⟩ hy => by
    rcases S.par n (List.of_mem_zip hy).1 with q | q
    · exact .inl q
    · exact .inr ⟨q, PySem.W.cellsFrom_some _ _ _ (.inl q)⟩
  refine codeAny_call_function hr.depth (KX _ _ lk) rfl S.co S.gen rfl (PySem.W.codeRec_of KX hcd) (hb _ _ _ _ ?_)
  refine wpAny_newFunctionEnv_cells S.kind hkind fun env he s1 x => ?_
  subst he
  refine ⟨lim.keeps x.toInCall.keep, codeAny_func ?_⟩
  obtain ⟨t, ht, hq⟩ := hbody A outer s H vs Q E (hr.deeper _) hsp
  have I : Inv (cxOf CX P w K mg base N qual scope f cdv A outer s H E) [] (start N vs) H s1 := inv_start S hr.hd e0 hl r x
  refine wpAny_mono (ht [] s1 (start N vs) H _ I hq) (fun fl s' hs => ?_) fun e s' hs => hs
  have fin : ∀ {σ' : St} {H' : Hp} {v : V} {u : Value}, Inv (cxOf CX P w K mg base N qual scope f cdv A outer s H E) [] σ' H' s' -> RelV v u -> Q v H' -> CE outer P w H s Q u s' :=
    fun {σ' H' v u} J rv q => ⟨v, H', J.os, J.bare, J.base, J.hok, rv, q⟩
  cases fl with
  | ret u =>
    obtain ⟨v, σ', H', J, rv, q⟩ := hs
    exact fin J rv q
  | next =>
    obtain ⟨σ', H', J, q⟩ := hs
    exact fin (v := V.non) (u := Value.none) J rfl q
  | brk =>
    obtain ⟨_, _, _, q⟩ := hs
    exact False.elim q
  | cont =>
    obtain ⟨_, _, _, q⟩ := hs
    exact False.elim q
section
variable {X : Cx} {x : Str} {p pos : Pos} {e : Expr} {es : List Expr} {t : TA} {id T : String} {r : List V -> Hp -> VK -> Prop}
def tCB (r : List V -> Hp -> VK -> Prop) (t : TA) : TE := fun σ H Q => t σ H fun vs H1 => r vs H1 Q
theorem pe_callB (hc : CallR X (.builtin id) r) (hg : Gl X x) (hm : X.mg x = none) (hv : bootBuiltins x = some (.builtin id)) (ha : PA X (e :: es) t) (hn : x ≠ "__name__" := by decide) (hdb : (x == ("__debug__" : Str)) = false := by decide)
    (he : starEach (e :: es) X.env = (false, eval e X.env) :: starEach es X.env := by rfl) (hpl : (backTo pos (starEach es X.env)).any (·.1) = false := by rfl) : PE X (.Call (.Name x p) (e :: es) [] pos) (tCB r t) := by
  intro pins s σ H Q I h
  refine wpAny_Call_Name_kw (ld_blt I hg hm hv ?_ hn hdb)
  exact PyProof.Rows.callWith_builtin1 (thn (ha pos pins s σ H _ I h) fun us s1 ⟨vs, H1, I1, r1, q1⟩ => hc pins s1 σ H1 vs us Q I1 r1 q1) he hpl
theorem pe_callTy (hc : CallR X (.type T) r) (hg : Gl X x) (hm : X.mg x = none) (hv : bootBuiltins x = some (.type T)) (ha : PA X (e :: es) t) (hn : x ≠ "__name__" := by decide) (hdb : (x == ("__debug__" : Str)) = false := by decide)
    (he : starEach (e :: es) X.env = (false, eval e X.env) :: starEach es X.env := by rfl) (hpl : (backTo pos (starEach es X.env)).any (·.1) = false := by rfl) : PE X (.Call (.Name x p) (e :: es) [] pos) (tCB r t) := by
  intro pins s σ H Q I h
  refine wpAny_Call_Name_kw (ld_blt I hg hm hv ?_ hn hdb)
  exact PyProof.Rows.callWith_type1 (thn (ha pos pins s σ H _ I h) fun us s1 ⟨vs, H1, I1, r1, q1⟩ => hc pins s1 σ H1 vs us Q I1 r1 q1) he hpl
end
end L2
namespace HT
open PySem PyProof.Rows
section
open PySem.SeqAt
open PySem.AutoSeq1 (wpAny_loadPart')
open PySem.MeetsSeq PySem.MeetsSeq2 PySem.MeetsSeq3
end
section
variable {prog : Program} {w : World} {A : Around} {E : Value -> Shared -> Prop} {s : Shared}
def sIx (n d : Nat) : Option Int -> Nat
  | none => d
  | some v => if v < 0 then (v + (n : Int)).toNat else min v.toNat n
theorem sIx_none (n d : Nat) : sIx n d none = d := rfl
theorem sIx_nat (n d k : Nat) : sIx n d (some (k : Int)) = min k n := by
  show (if (k : Int) < 0 then ((k : Int) + (n : Int)).toNat else min (k : Int).toNat n) = min k n
  rw [if_neg (by lia), Int.toNat_natCast]
end
end HT
namespace L2
open PySem PySem.Spec PyProof.Rows
abbrev TO := St -> Hp -> (Option Int -> Hp -> Prop) -> Prop
def PO (X : Cx) (e : Option Expr) (t : TO) : Prop :=
  ∀ (pins : List (Addr × Obj)) (s : Shared) (σ : St) (H : Hp) (Q : Option Int -> Hp -> Prop), Inv X pins σ H s -> t σ H Q ->
    wpAny (model X.prog X.w) X.A (evalPart e X.env) (fun u s' => ∃ o H', Inv X pins σ H' s' /\ IsPart u o /\ Q o H') X.xe s
def tNoPart : TO := fun _ H Q => Q none H
def tPart (t : TE) : TO := fun σ H Q => t σ H fun x H1 => ∃ i, x = .int i /\ Q (some i) H1
theorem intsAre_of {ns : List Int} : ∀ {us : List Value}, Vals (ns.map V.int) us -> IntsAre us ns := by
  induction ns with
  | nil => intro us r; rw [List.map_nil] at r; cases r; exact .nil
  | cons n ns ih =>
    intro us r
    rw [List.map_cons] at r
    cases r with
    | cons r1 r2 =>
      obtain ⟨t, e⟩ := r1
      subst e
      exact .cons n t (ih r2)
section
variable {X : Cx} {e : Expr} {te : TE} {lo hi : Option Expr} {tl th : TO} {pos p2 : Pos}
theorem po_none : PO X none tNoPart := by
  intro pins s σ H Q I h
  rw [evalPart_none]
  exact wpAny_pure ⟨none, H, I, .none, h⟩
theorem po_some (h : PE X e te) : PO X (some e) (tPart te) := by
  intro pins s σ H Q I hw
  rw [evalPart_some]
  refine thn (h pins s σ H _ I hw) fun u s1 ⟨x, H1, I1, r1, q1⟩ => ?_
  obtain ⟨i, rfl, q⟩ := q1
  obtain ⟨t, rfl⟩ := r1
  exact ⟨some i, H1, I1, .int i t, q⟩
def SlR (X : Cx) (r : V -> Option Int -> Option Int -> Hp -> VK -> Prop) : Prop :=
  ∀ (pins : List (Addr × Obj)) (s : Shared) (σ : St) (H : Hp) (x : V) (v vl vu : Value) (lo hi : Option Int) (sl : Addr) (Q : VK), Inv X pins σ H s -> RelV x v -> s.heap.IsSliceOf sl vl vu .none -> IsPart vl lo -> IsPart vu hi -> r x lo hi H Q ->
    ∃ T id, typeLookup (.type T) "__getitem__" = pure (some (.builtin id)) /\ s.TypeIs v T /\ wpAny (model X.prog X.w) X.A (getItem v (.ref sl)) (EP X pins σ Q) X.xe s
def tSl (r : V -> Option Int -> Option Int -> Hp -> VK -> Prop) (te : TE) (tl th : TO) : TE := fun σ H Q => te σ H fun x H1 => tl σ H1 fun l H2 => th σ H2 fun u H3 => r x l u H3 Q
theorem pe_slice {r : V -> Option Int -> Option Int -> Hp -> VK -> Prop} (hr : SlR X r) (he : PE X e te) (hl : PO X lo tl) (hu : PO X hi th) : PE X (.Subscript e (.Slice lo hi none p2) pos) (tSl r te tl th) := by
  intro pins s σ H Q I h
  refine Subscript_ (thn (he pins s σ H _ I h) fun v s1 ⟨x, H1, I1, r1, q1⟩ => ?_)
  refine wpAny_Slice (thn (hl pins s1 σ H1 _ I1 q1) fun vl s2 ⟨l, H2, I2, pl, q2⟩ => thn (hu pins s2 σ H2 _ I2 q2) fun vu s3 ⟨u, H3, I3, pu, q3⟩ => ?_)
  rw [evalPart_none]
  refine wpAny_pure ?_
  have I4 : Inv X pins σ H3 { s3 with heap := s3.heap.push { cls := .type "slice", data := .fields #[vl, vu, .none] } } := I3.kept (t' := s3.toks) fun b ob q => Heap.get?_push_of_some _ q
  obtain ⟨T, id, hT, ht, hg⟩ := hr pins { s3 with heap := s3.heap.push { cls := .type "slice", data := .fields #[vl, vu, .none] } } σ H3 x v vl vu l u s3.heap.objs.size Q I4 r1 (Heap.IsSliceOf.new ..) pl pu q3
  show wpAny (model X.prog X.w) X.A (subscriptTail e (.Slice lo hi none p2) v (.ref s3.heap.objs.size)) (EP X pins σ Q) X.xe { s3 with heap := s3.heap.push { cls := .type "slice", data := .fields #[vl, vu, .none] } }
  exact tail_any (ops := [.ref s3.heap.objs.size, v]) ht hT hg (by with_unfolding_all rfl)
def cutV (xs : List V) (lo hi : Option Int) : List V := (xs.drop (HT.sIx xs.length 0 lo)).take (HT.sIx xs.length xs.length hi - HT.sIx xs.length 0 lo)
theorem cutV_length (xs : List V) (lo hi : Option Int) : (cutV xs lo hi).length <= xs.length := by
  unfold cutV
  rw [List.length_take, List.length_drop]
  lia
end
def ixN (n : Nat) (i : Int) : Option Nat := if 0 <= i then (if i < n then some i.toNat else none) else if -(n : Int) <= i then some (i + n).toNat else none
def atI {α : Type} (xs : List α) (i : Int) : Option α := (ixN xs.length i).bind fun j => xs[j]?
theorem ixN_seq {n : Nat} {i : Int} {j : Nat} (h : ixN n i = some j) : seqIndex? i n = some j /\ j < n /\ -(n : Int) <= i /\ i < n := by
  unfold ixN at h
  by_cases h0 : 0 <= i
  · rw [if_pos h0] at h
    by_cases h1 : i < n
    · rw [if_pos h1] at h
      have e : i.toNat = j := Option.some.inj h
      exact ⟨by rw [seqIndex_of h0 h1, e], by lia, by lia, h1⟩
    · rw [if_neg h1] at h; cases h
  · rw [if_neg h0] at h
    by_cases h1 : -(n : Int) <= i
    · rw [if_pos h1] at h
      have e : (i + n).toNat = j := Option.some.inj h
      exact ⟨by rw [seqIndex_neg (by lia) h1, e], by lia, h1, by lia⟩
    · rw [if_neg h1] at h; cases h
theorem atI_get {α : Type} {xs : List α} {i : Int} {v : α} (h : atI xs i = some v) : ∃ j, seqIndex? i xs.length = some j /\ xs[j]? = some v /\ j < xs.length /\ -(xs.length : Int) <= i /\ i < xs.length := by
  unfold atI at h
  cases e : ixN xs.length i with
  | none => rw [e] at h; cases h
  | some j =>
    rw [e] at h
    obtain ⟨h1, h2, h3, h4⟩ := ixN_seq e
    exact ⟨j, h1, h, h2, h3, h4⟩
theorem atI_nat {α : Type} {xs : List α} {j : Nat} {v : α} (h : xs[j]? = some v) : atI xs (j : Int) = some v := by
  have hj : j < xs.length := (List.getElem?_eq_some_iff.mp h).1
  have e : ixN xs.length (j : Int) = some j := by
    unfold ixN
    rw [if_pos (by lia), if_pos (by lia)]; simp
  unfold atI; rw [e]; exact h
def PlainIx (b : Expr) : Prop := ∀ o i, subscripted b false o i = operate [o, i] (getItem o i)
def IxR (X : Cx) (r : R2) : Prop :=
  ∀ (value slice : Expr) (pins : List (Addr × Obj)) (s : Shared) (σ : St) (H : Hp) (x y : V) (v u : Value) (Q : VK), Inv X pins σ H s -> RelV x v -> RelV y u -> r x y H Q ->
    subscripted slice false v u = operate [v, u] (getItem v u) -> wpAny (model X.prog X.w) X.A (subscriptTail value slice v u) (EP X pins σ Q) X.xe s
def MtR (X : Cx) (id : String) (r : V -> List V -> Hp -> VK -> Prop) : Prop :=
  ∀ (pins : List (Addr × Obj)) (s : Shared) (σ : St) (H : Hp) (x : V) (xs : List V) (v : Value) (us : List Value) (Q : VK), Inv X pins σ H s -> RelV x v -> Vals xs us -> r x xs H Q ->
    wpAny (model X.prog X.w) X.A (call (.builtin id) (v :: us)) (EP X pins σ Q) X.xe s
section
variable {X : Cx} {a b : Expr} {ta tb : TE} {pos : Pos}
theorem pe_ix {r : R2} (hr : IxR X r) (ha : PE X a ta) (hb : PE X b tb) (hs : PlainIx b) : PE X (.Subscript a b pos) (tOp r ta tb) := by
  intro pins s σ H Q I h
  exact Subscript_ (binT ha hb I h fun v u s2 x y H2 I2 rx ry q => hr a b pins s2 σ H2 x y v u Q I2 rx ry q (hs _ _))
def rIxL (K : PySem.W.Frag) : R2 := fun x y H Q => ∃ p xs i v, x = .ref p /\ y = .int i /\ SqL K H p xs /\ atI xs i = some v /\ Q v H
def rIxT (K : PySem.W.Frag) : R2 := fun x y H Q => ∃ p xs i v, x = .ref p /\ y = .int i /\ SqT K H p xs /\ atI xs i = some v /\ Q v H
theorem ix_list : IxR X (rIxL X.K) := by
  intro value slice pins s σ H x y v u Q I rx ry h hs
  obtain ⟨p, xs, i, z, rfl, rfl, hq, he, q⟩ := h
  cases rx
  obtain ⟨t, rfl⟩ := ry
  obtain ⟨its, r, pl, hz⟩ := I.list hq
  obtain ⟨j, h1, h2, h3, h4, h5⟩ := atI_get he
  obtain ⟨w, ew, rw'⟩ := r.get h2
  have hl := r.length
  have hn := line63
  have fin : EP X pins σ Q w s := ⟨z, H, I, rw', q⟩
  by_cases h0 : 0 <= i
  · have hj : i.toNat = j := by
      rw [seqIndex_of h0 h5] at h1
      exact Option.some.inj h1
    exact item_listR pl.isList h0 (by lia) (by rw [hj]; simpa using ew) fin hs
  · have hj : (i + (its.toArray.size : Int)).toNat = j := by
      rw [seqIndex_neg (by lia) h4] at h1
      rw [List.size_toArray, <- hl]
      exact Option.some.inj h1
    exact subscriptTail_builtinR (x := w) pl.isList.typeIs slot_list_getitem.lookup
      (wpAny_getItem_list_neg (Q := fun r s' => r = w /\ EP X pins σ Q r s') pl.isList (by lia) (by rw [List.size_toArray] <;> lia) (by lia) (by rw [hj]; simpa using ew) ⟨rfl, fin⟩) hs
theorem ix_tup : IxR X (rIxT X.K) := by
  intro value slice pins s σ H x y v u Q I rx ry h hs
  obtain ⟨p, xs, i, z, rfl, rfl, hq, he, q⟩ := h
  cases rx
  obtain ⟨t, rfl⟩ := ry
  obtain ⟨its, r, pl, hz⟩ := I.tuple hq
  obtain ⟨j, h1, h2, h3, h4, h5⟩ := atI_get he
  obtain ⟨w, ew, rw'⟩ := r.get h2
  have hl := r.length
  have hn := line63
  have fin : EP X pins σ Q w s := ⟨z, H, I, rw', q⟩
  exact subscriptTail_builtinR (x := w) pl.typeIs slot_tuple_getitem.lookup
    (getItem_tuple (j := j) (Q := fun r s' => r = w /\ EP X pins σ Q r s') pl (by lia) (by lia) (by rw [List.size_toArray, <- hl]; exact h1) (by simpa using ew) ⟨rfl, fin⟩) hs
theorem slice_bounds (lo hi : Option Int) (n : Nat) : (sliceBounds lo hi none n).1 = ((HT.sIx n 0 lo : Nat) : Int) /\ (sliceBounds lo hi none n).2.1 = ((HT.sIx n n hi : Nat) : Int) /\ (sliceBounds lo hi none n).2.2 = 1 := by
  refine ⟨?_, ?_, rfl⟩
  · cases lo with
    | none => simp [sliceBounds, HT.sIx]
    | some i =>
      simp only [sliceBounds, HT.sIx, Option.getD_none, show (1 : Int) > 0 by decide, if_true]
      by_cases h : i < 0
      · simp only [h, if_true] <;> lia
      · simp only [h, if_false] <;> lia
  · cases hi with
    | none => simp [sliceBounds, HT.sIx]
    | some i =>
      simp only [sliceBounds, HT.sIx, Option.getD_none, show (1 : Int) > 0 by decide, if_true]
      by_cases h : i < 0
      · simp only [h, if_true] <;> lia
      · simp only [h, if_false] <;> lia
theorem slicePick_cut (its : List Value) (lo hi : Option Int) : slicePick its.toArray lo hi none = ((its.drop (HT.sIx its.length 0 lo)).take (HT.sIx its.length its.length hi - HT.sIx its.length 0 lo)).toArray := by
  obtain ⟨h1, h2, h3⟩ := slice_bounds lo hi its.toArray.size
  unfold slicePick
  rw [h1, h2, h3]
  simp only [sliceRange_one, pick_run, List.size_toArray] <;> rfl
def rSlL (K : PySem.W.Frag) : V -> Option Int -> Option Int -> Hp -> VK -> Prop := fun x lo hi H Q => ∃ a xs, x = .ref a /\ SqL K H a xs /\ ∀ p, H p = none -> Q (.ref p) (upd H p (.lst (cutV xs lo hi)))
theorem sl_list : SlR X (rSlL X.K) := by
  intro pins s σ H x v vl vu lo hi sl Q I rx hs pl pu h
  obtain ⟨a, xs, rfl, hx, q⟩ := h
  cases rx
  obtain ⟨its, r, ht, hz⟩ := I.list hx
  have hlen := r.length
  refine ⟨"list", _, slot_list_getitem.lookup, ht.isList.typeIs, ?_⟩
  refine wpAny_getItem_list_slice ht.isList hs pl pu .none (by simp) ?_ (by rw [List.size_toArray] <;> lia)
  rw [slicePick_cut, <- hlen]
  refine ⟨.ref s.heap.objs.size, _, I.laid (t' := s.toks) (o := .lst (cutV xs lo hi)) (fun b ob q => Heap.get?_push_of_some _ q) (Nat.le_refl _) ?_, rfl, q _ (I.hok.fresh (Nat.le_refl _))⟩
  exact ⟨Nat.le_trans (cutV_length xs lo hi) hz, _, 0, (r.drop (HT.sIx xs.length 0 lo)).take (HT.sIx xs.length xs.length hi - HT.sIx xs.length 0 lo), Heap.get?_push_size _ rfl⟩
def flatV : V -> Bool
  | .non => true
  | .bl _ => true
  | .int _ => true
  | .str _ => true
  | _ => false
def eqV : V -> V -> Bool
  | .non, .non => true
  | .bl a, .bl b => a == b
  | .bl a, .int b => (if a then 1 else 0) == b
  | .int a, .bl b => a == (if b then 1 else 0)
  | .int a, .int b => a == b
  | .str a, .str b => a == b
  | _, _ => false
theorem eqAt_V {A : Around} {s : Shared} {y x : V} {u v : Value} (ry : RelV y u) (rx : RelV x v) (fy : flatV y = true) (fx : flatV x = true) : SeqAt.EqAt A s u v (eqV y x) := by
  cases y with
  | non =>
    cases ry
    cases x with
    | non => cases rx; exact SeqAt.EqAt.same _
    | bl b => cases rx; exact SeqAt.EqAt.none_bool b
    | int b => obtain ⟨t, rfl⟩ := rx; exact SeqAt.EqAt.none_int b t
    | str b => obtain ⟨t, rfl⟩ := rx; exact SeqAt.EqAt.none_str b t
    | _ => exact absurd (show false = true from fx) Bool.false_ne_true
  | bl a =>
    cases ry
    cases x with
    | non => cases rx; exact SeqAt.EqAt.bool_none a
    | bl b => cases rx; exact SeqAt.EqAt.bool_bool a b
    | int b => obtain ⟨t, rfl⟩ := rx; exact SeqAt.EqAt.bool_int a b t
    | str b => obtain ⟨t, rfl⟩ := rx; exact SeqAt.EqAt.bool_str a b t
    | _ => exact absurd (show false = true from fx) Bool.false_ne_true
  | int a =>
    obtain ⟨t', rfl⟩ := ry
    cases x with
    | non => cases rx; exact SeqAt.EqAt.int_none a t'
    | bl b => cases rx; exact SeqAt.EqAt.int_bool a t' b
    | int b => obtain ⟨t, rfl⟩ := rx; exact SeqAt.EqAt.int_int a t' b t
    | str b => obtain ⟨t, rfl⟩ := rx; exact SeqAt.EqAt.int_str a t' b t
    | _ => exact absurd (show false = true from fx) Bool.false_ne_true
  | str a =>
    obtain ⟨t', rfl⟩ := ry
    cases x with
    | non => cases rx; exact SeqAt.EqAt.str_none a t'
    | bl b => cases rx; exact SeqAt.EqAt.str_bool a t' b
    | int b => obtain ⟨t, rfl⟩ := rx; exact SeqAt.EqAt.str_int a t' b t
    | str b => obtain ⟨t, rfl⟩ := rx; exact SeqAt.EqAt.str_str a t' b t
    | _ => exact absurd (show false = true from fx) Bool.false_ne_true
  | _ => exact absurd (show false = true from fy) Bool.false_ne_true
theorem call_len_seq : CallR X (.builtin "len") (fun xs H Q => ∃ p ys, xs = [.ref p] /\ (SqL X.K H p ys \/ SqT X.K H p ys) /\ Q (.int ys.length) H) := by
  intro pins s σ H xs us Q I r h
  obtain ⟨p, ys, rfl, hq, q⟩ := h
  obtain ⟨u, rfl, rx⟩ := vals1 r
  cases rx
  have hn := line63
  rcases hq with hq | hq
  · obtain ⟨its, r', pl, hz⟩ := I.list hq
    have hlen := r'.length
    exact Calls.call_len_list pl.isList (by simp only [List.size_toArray] <;> lia) ⟨.int ys.length, H, I.tok _, ⟨s.toks + 1, by rw [List.size_toArray, hlen]⟩, q⟩
  · obtain ⟨its, r', pl, hz⟩ := I.tuple hq
    have hlen := r'.length
    exact len_tuple pl (by simp only [List.size_toArray] <;> lia) ⟨.int ys.length, H, I.tok _, ⟨s.toks + 1, by rw [List.size_toArray, hlen]⟩, q⟩
theorem call_list_of : CallR X (.type "list") (fun xs H Q => ∃ p ys, xs = [.ref p] /\ (SqL X.K H p ys \/ SqT X.K H p ys) /\ ∀ l, H l = none -> Q (.ref l) (upd H l (.lst ys))) := by
  intro pins s σ H xs us Q I r h
  obtain ⟨p, ys, rfl, hq, q⟩ := h
  obtain ⟨u, rfl, rx⟩ := vals1 r
  cases rx
  have fin : ∀ (its : List Value), Vals ys its -> ys.length <= sizeLine -> ∀ (h' : Heap) (c' : Nat), (∀ b o', s.heap.get? b = some o' -> h'.get? b = some o') ->
      h'.get? s.heap.objs.size = some { cls := .type "list", dict := none, data := .seq its.toArray c', slots := #[] } -> EP X pins σ Q (.ref s.heap.objs.size) { s with heap := h' } := fun its r' hz h' c' kp e =>
    ⟨.ref s.heap.objs.size, _, I.laid (t' := s.toks) kp (Nat.le_refl _) (show ObjOk X.prog X.w _ h' _ (.lst ys) from ⟨hz, its, c', r', e⟩), rfl, q _ (I.hok.fresh (Nat.le_refl _))⟩
  rcases hq with hq | hq
  · obtain ⟨its, r', pl, hz⟩ := I.list hq
    have hlen := r'.length
    obtain ⟨o, ho, hc, n, hd⟩ := pl.isList
    exact call_list_seq p (.inl rfl) ho hc hd (fun h' c' kp e => fin its r' hz h' c' kp e) (by simp only [List.size_toArray] <;> lia)
  · obtain ⟨its, r', pl, hz⟩ := I.tuple hq
    have hlen := r'.length
    obtain ⟨o, ho, hc, n, hd⟩ := pl
    exact call_list_seq p (.inr rfl) ho hc hd (fun h' c' kp e => fin its r' hz h' c' kp e) (by simp only [List.size_toArray] <;> lia)
theorem call_tuple_of : CallR X (.type "tuple") (fun xs H Q => ∃ p ys, xs = [.ref p] /\ ((SqL X.K H p ys /\ ∀ l, H l = none -> Q (.ref l) (upd H l (.tup ys))) \/ (SqT X.K H p ys /\ Q (.ref p) H))) := by
  intro pins s σ H xs us Q I r h
  obtain ⟨p, ys, rfl, h⟩ := h
  obtain ⟨u, rfl, rx⟩ := vals1 r
  cases rx
  rcases h with ⟨hq, q⟩ | ⟨hq, q⟩
  · obtain ⟨its, r', pl, hz⟩ := I.list hq
    have hlen := r'.length
    refine call_tuple_list pl.isList (fun h' kp => ?_) (by simp only [List.size_toArray] <;> lia)
    have I1 : Inv X pins σ H { s with heap := h' } := I.kept (t' := s.toks) kp
    have I2 : Inv X pins σ (upd H h'.objs.size (.tup ys)) { s with heap := h'.push { cls := .type "tuple", data := .seq its.toArray } } :=
      I1.laid (t' := s.toks) (fun b o e => Heap.get?_push_of_some _ e) (Nat.le_refl _) (show ObjOk X.prog X.w _ _ _ (.tup ys) from ⟨hz, its, r', IsTup.new _ _⟩)
    exact ⟨.ref h'.objs.size, _, I2, rfl, q _ (I1.hok.fresh (Nat.le_refl _))⟩
  · obtain ⟨its, r', pl, hz⟩ := I.tuple hq
    exact call_tuple_same pl ⟨.ref p, H, I, rfl, q⟩
def tyV (K : PySem.W.Frag) (T : String) (x : V) (H : Hp) : Prop := match x with
  | .str _ => T = "str"
  | .int _ => T = "int"
  | .ref p => (T = "list" /\ ∃ xs, SqL K H p xs) \/ (T = "tuple" /\ ∃ o, K.lookup p = some o /\ o.cls = .type "tuple" /\ o.dict = none) \/
      (T = "dict" /\ ((∃ kvs, H p = some (.dK kvs)) \/ ∃ kvs, H p = some (.dT kvs))) \/ (T = "set" /\ ∃ S n, H p = some (.set S n))
  | _ => False
theorem tyV_is {pins : List (Addr × Obj)} {σ : St} {H : Hp} {s : Shared} {T : String} {x : V} {v : Value} (I : Inv X pins σ H s) (r : RelV x v) (ty : tyV X.K T x H) :
    s.TypeIs v T /\ ∀ a, v = .ref a -> ∃ ob, s.heap.get? a = some ob /\ ob.dict = none := by
  cases x with
  | str z =>
    obtain ⟨t, rfl⟩ := r
    cases (show T = "str" from ty)
    exact ⟨typeIs_str s z t, fun _ e => nomatch e⟩
  | int i =>
    obtain ⟨t, rfl⟩ := r
    cases (show T = "int" from ty)
    exact ⟨typeIs_int s i t, fun _ e => nomatch e⟩
  | ref p =>
    cases r
    rcases ty with ⟨rfl, xs, hq⟩ | ⟨rfl, o, hk, hc, hd⟩ | ⟨rfl, hk⟩ | ⟨rfl, S, n, hk⟩
    · obtain ⟨its, _, pl, _⟩ := I.list hq
      refine ⟨pl.isList.typeIs, fun a e => ?_⟩
      cases e
      obtain ⟨o, n, e, c, hd, _⟩ := pl
      exact ⟨o, e, hd⟩
    · refine ⟨⟨o, I.kIn p o hk, hc⟩, fun a e => ?_⟩
      cases e
      exact ⟨o, I.kIn _ o hk, hd⟩
    · have z : ∃ o, s.heap.get? p = some o /\ o.ExactDict := by
        rcases hk with ⟨kvs, hk⟩ | ⟨kvs, hk⟩
        · obtain ⟨_, _, _, _, o, _, _, e, ex, _⟩ := I.hok p _ hk
          exact ⟨o, e, ex⟩
        · obtain ⟨_, _, _, _, o, _, _, e, ex, _⟩ := I.hok p _ hk
          exact ⟨o, e, ex⟩
      obtain ⟨o, e, ex⟩ := z
      refine ⟨⟨o, e, ex.1⟩, fun a e2 => ?_⟩
      cases e2
      exact ⟨o, e, ex.2.1⟩
    · obtain ⟨o, _, _, _, e, ex, _⟩ := I.hok p _ hk
      refine ⟨⟨o, e, ex.1⟩, fun a e2 => ?_⟩
      cases e2
      exact ⟨o, e, ex.2.1⟩
  | _ => exact False.elim ty
def tBM0 (K : PySem.W.Frag) (T : String) (r : V -> List V -> Hp -> VK -> Prop) (to : TE) : TE := fun σ H Q => to σ H fun x H1 => tyV K T x H1 /\ r x [] H1 Q
def tBM (K : PySem.W.Frag) (T : String) (r : V -> List V -> Hp -> VK -> Prop) (to : TE) (t : TA) : TE := fun σ H Q => to σ H fun x H1 => tyV K T x H1 /\ t σ H1 fun xs H2 => r x xs H2 Q
variable {o e : Expr} {es : List Expr} {to : TE} {t : TA} {name : Str} {apos cpos : Pos} {T id : String} {r : V -> List V -> Hp -> VK -> Prop}
theorem pe_bm0 (pa : PlainAttrs T) (slot : Slot T name id) (hty : typeOf (.builtin id) = pure (.type "method_descriptor")) (hm : MtR X id r) (ho : PE X o to)
    (hbase : attributeBase o name X.env (eval o X.env) = eval o X.env := by rfl) (hline : (apos.endLine == cpos.line) = true := by rfl) : PE X (.Call (.Attribute o name apos) [] [] cpos) (tBM0 X.K T r to) := by
  intro pins s σ H Q I h
  refine wpAny_Call_method0_late hbase hline (thn (ho pins s σ H _ I h) fun v s1 ⟨x, H1, I1, r1, ty, q1⟩ => ?_)
  obtain ⟨h1, h2⟩ := tyV_is I1 r1 ty
  exact ⟨T, id, pa, slot, hty, h1, h2, Calls.callWith_builtin rfl (PySem.evalArgs_none (hm pins s1 σ H1 x [] v [] Q I1 r1 .nil q1))⟩
theorem pe_bm (pa : PlainAttrs T) (slot : Slot T name id) (hty : typeOf (.builtin id) = pure (.type "method_descriptor")) (hm : MtR X id r) (ho : PE X o to) (ha : PA X (e :: es) t)
    (hbase : attributeBase o name X.env (eval o X.env) = eval o X.env := by rfl)
    (hfew : ((backTo cpos (starEach (e :: es) X.env)).all (fun x => !x.1) && (backToKw cpos (keywordEach [] X.env)).all (fun x => x.1.isSome)
      && decide ((e :: es).length + ([] : List Keyword).length + (if ([] : List Keyword).isEmpty then 0 else 1) < 30)) = true := by rfl)
    (hline : (apos.endLine == cpos.line) = true := by rfl) (hs : starEach (e :: es) X.env = (false, eval e X.env) :: starEach es X.env := by rfl) (hplain : (backTo cpos (starEach es X.env)).any (·.1) = false := by rfl) :
    PE X (.Call (.Attribute o name apos) (e :: es) [] cpos) (tBM X.K T r to t) := by
  intro pins s σ H Q I h
  refine wpAny_Call_method_late hbase hfew hline rfl (thn (ho pins s σ H _ I h) fun v s1 ⟨x, H1, I1, r1, ty, q1⟩ => ?_)
  obtain ⟨h1, h2⟩ := tyV_is I1 r1 ty
  refine ⟨T, id, pa, slot, hty, h1, h2, ?_⟩
  have hA := ha cpos pins s1 σ H1 _ I1 q1
  rw [hs] at hA ⊢
  refine Calls.callWith_builtin (by show (false || (backTo cpos (starEach es X.env)).any (·.1)) = false; rw [hplain] <;> rfl) (Calls.evalArgs_plain ?_)
  exact thn hA fun us s2 ⟨vs, H2, I2, r2, q2⟩ => hm pins s2 σ H2 x vs v us Q I2 r1 r2 q2
/- xs.append(e), list.index on a module's tuple .. are MtR facts of 06m -/
end
def MtM (X : Cx) (id : String) (r : V -> List V -> Hp -> VK -> Prop) : Prop :=
  ∀ (pins : List (Addr × Obj)) (s : Shared) (σ : St) (H : Hp) (x : V) (xs : List V) (v : Value) (us : List Value) (Q : VK), Inv X pins σ H s -> RelV x v -> Vals xs us -> r x xs H Q ->
    wpAny (model X.prog X.w) X.A (call (.builtin id) (v :: us)) (EP X pins σ Q) X.xe s
theorem Vals.one : ∀ {x : V} {us : List Value}, Vals [x] us -> ∃ u, us = [u] /\ RelV x u
  | _, _, .cons r .nil => ⟨_, rfl, r⟩
theorem Vals.two : ∀ {x y : V} {us : List Value}, Vals [x, y] us -> ∃ u v, us = [u, v] /\ RelV x u /\ RelV y v := by
  intro x y us h
  cases h with
  | cons r h => cases h with
    | cons q h => cases h; exact ⟨_, _, rfl, r, q⟩
theorem Vals.zero : ∀ {us : List Value}, Vals [] us -> us = []
  | _, .nil => rfl
theorem Vals.dropLast {xs : List V} {us : List Value} (h : Vals xs us) : Vals xs.dropLast us.dropLast := by
  induction h with
  | nil => exact .nil
  | cons r t ih =>
    cases t with
    | nil => exact .nil
    | cons q t' => exact .cons r ih
theorem erase_last {α : Type} (l : List α) : l.eraseIdx (l.length - 1) = l.dropLast := by
  induction l with
  | nil => rfl
  | cons a r ih =>
    cases r with
    | nil => rfl
    | cons b r =>
      have e : (a :: b :: r).length - 1 = ((b :: r).length - 1) + 1 := by
        have h1 : (a :: b :: r).length = r.length + 2 := rfl
        have h2 : (b :: r).length = r.length + 1 := rfl
        lia
      rw [e, List.eraseIdx_cons_succ, ih]
      all_goals rfl
section
variable {X : Cx} {pins : List (Addr × Obj)} {σ : St} {H : Hp} {s : Shared} {l b : Addr} {xs ys zs : List V}
theorem Inv.lset {its its' : List Value} {n : Nat} {f : Array Value -> Array Value} {t' : Nat} (I : Inv X pins σ H s) (hH : H l = some (.lst xs))
    (e : s.heap.get? l = some { cls := .type "list", data := .seq its.toArray n }) (hf : f its.toArray = its'.toArray) (hv : Vals ys its') (hz : ys.length <= sizeLine) :
    Inv X pins σ (upd H l (.lst ys)) { s with heap := s.heap.update l (Obj.mapSeq f), toks := t' } := by
  have q := PySem.IsL.update e f
  rw [hf] at q
  refine I.write (x := l) (e := l) (by rw [hH]; exact trivial) (.inl rfl) (fun b' u hb hu => (Heap.get?_update_other s.heap (Obj.mapSeq f) (Ne.symm hb)).trans hu) ⟨_, q⟩ ?_
  exact ⟨hz, its', _, hv, q⟩
theorem Inv.lnew {its : List Value} {t' : Nat} (I : Inv X pins σ H s) (hv : Vals ys its) (hz : ys.length <= sizeLine) :
    Inv X pins σ (upd H s.heap.objs.size (.lst ys)) { s with heap := s.heap.push { cls := .type "list", data := .seq its.toArray }, toks := t' } :=
  I.laid (fun _ _ q => Heap.get?_push_of_some _ q) (Nat.le_refl _) ⟨hz, its, 0, hv, Heap.get?_push_size _ rfl⟩
theorem Inv.fresh (I : Inv X pins σ H s) : H s.heap.objs.size = none := I.hok.fresh (Nat.le_refl _)
theorem Inv.lstM (I : Inv X pins σ H s) (hH : H l = some (.lst xs)) : xs.length <= sizeLine /\ ∃ (its : List Value) (n : Nat), Vals xs its /\ xs.length = its.length /\ s.heap.get? l = some { cls := .type "list", data := .seq its.toArray n } := by
  obtain ⟨z, its, n, r, e⟩ := I.hok l _ hH
  exact ⟨z, its, n, r, r.length, e⟩
end
section
variable {X : Cx}
def rAppend : V -> List V -> Hp -> VK -> Prop := fun x vs H Q => ∃ l xs y, x = .ref l /\ vs = [y] /\ H l = some (.lst xs) /\ xs.length < sizeLine /\ Q .non (upd H l (.lst (xs ++ [y])))
theorem mt_append : MtM X "list.append" rAppend := by
  intro pins s σ H x vs v us Q I rx rv h
  obtain ⟨l, xs, y, rfl, rfl, hH, hz, q⟩ := h
  cases rx
  obtain ⟨u, rfl, ru⟩ := rv.one
  obtain ⟨z, its, n, r, hl, e⟩ := I.lstM hH
  refine call_meets F.slot_list_append ⟨_, e, rfl⟩ F.entry_list_append (F.args_list_append_2 _ _) (PySem.list_append l its.toArray n u (by rw [List.size_toArray]; lia)) ⟨e, ?_⟩
  refine ⟨.non, _, I.lset (its' := its ++ [u]) hH e (by simp) (r.append (.cons ru .nil)) ?_, rfl, q⟩
  rw [List.length_append, List.length_singleton]
  lia
def rPop : V -> List V -> Hp -> VK -> Prop := fun x vs H Q => ∃ l xs y, x = .ref l /\ vs = [] /\ H l = some (.lst xs) /\ xs[xs.length - 1]? = some y /\ Q y (upd H l (.lst xs.dropLast))
theorem mt_pop : MtM X "list.pop" rPop := by
  intro pins s σ H x vs v us Q I rx rv h
  obtain ⟨l, xs, y, rfl, rfl, hH, hy, q⟩ := h
  cases rx
  have hus := rv.zero
  subst hus
  obtain ⟨z, its, n, r, hl, e⟩ := I.lstM hH
  obtain ⟨u, hu, ru⟩ := r.get hy
  have hy' : its.toArray[its.toArray.size - 1]? = some u := by
    show its.toArray[its.length - 1]? = some u
    rw [<- Array.getElem?_toList, <- hl]
    exact hu
  refine call_meets F.slot_list_pop ⟨_, e, rfl⟩ F.entry_list_pop (F.args_list_pop_1 _) (MeetsSeq.list_pop_last l its.toArray n u hy' (by rw [List.size_toArray]; lia)) ⟨e, ?_⟩
  refine ⟨y, _, I.lset (its' := its.dropLast) hH e ?_ r.dropLast ?_, ru, q⟩
  · show its.toArray.eraseIdxIfInBounds (its.toArray.size - 1) = its.dropLast.toArray
    rw [List.size_toArray, List.eraseIdxIfInBounds_toArray, erase_last]
  · rw [List.length_dropLast]
    lia
def rCat : R2 := fun x y H Q => ∃ l b xs zs, x = .ref l /\ y = .ref b /\ H l = some (.lst xs) /\ H b = some (.lst zs) /\ xs.length + zs.length <= sizeLine /\ ∀ p, H p = none -> Q (.ref p) (upd H p (.lst (xs ++ zs)))
theorem op_cat : OpR X (binaryOp .Add) rCat := by
  intro pins s σ H x y v u Q I rx ry h
  obtain ⟨l, b, xs, zs, rfl, rfl, hH, hB, hz, q⟩ := h
  cases rx
  cases ry
  obtain ⟨z, its, n, r, hl, e⟩ := I.lstM hH
  obtain ⟨z2, its2, n2, r2, hl2, e2⟩ := I.lstM hB
  refine PySem.P.add_list e e2 ?_ (by rw [List.size_toArray, List.size_toArray]; lia)
  have ea : its.toArray ++ its2.toArray = (its ++ its2).toArray := by simp
  rw [ea]
  exact ⟨.ref _, _, I.lnew (t' := s.toks) (r.append r2) (by rw [List.length_append]; lia), rfl, q _ I.fresh⟩
end
section
variable {prog : Program} {w : World} {A : Around} {E : Value -> Shared -> Prop} {s : Shared}
set_option maxRecDepth 100000 in
end
section
variable {X : Cx}
end
end L2
namespace Att
open PySem PySem.W PySem.Calls PyProof.Rows
theorem ints_of_wellAll {P : Params} {h : Heap} : ∀ (ns : List Int) (vs : List Value), WellAll P h vs (ns.map WData.int) -> IntsAre vs ns := by
  intro ns
  induction ns with
  | nil =>
    intro vs w
    rw [List.map_nil] at w
    cases w
    exact .nil
  | cons n ns ih =>
    intro vs w
    rw [List.map_cons] at w
    cases w with
    | cons a b =>
      cases a
      exact .cons _ _ (ih _ b)
theorem script_of {l : OpenLaw} {n : Nat} (hn : l.most = some n) {P : Params} {h : Heap} {args : List WData} {vals : List Value}
    (hpre : l.row.toRowW.claim.pre args = true) (hwl : WellAll P h vals args) :
    ∃ a vs ns, vals = [Value.ref a] /\ args = [WData.list (ns.map WData.int)] /\ h.get? a = some { cls := .type "list", data := .seq vs.toArray } /\ IntsAre vs ns /\ ns.length <= n := by
  have hsh : WShape.hasAll [] args [.list .int] = true := (pre_splitW hpre).1
  have hc : l.pre.holds [] { args := args } = true := (pre_splitW hpre).2
  obtain ⟨d, r, rfl, h1, h2⟩ := hasAllW_cons hsh
  obtain rfl := hasAllW_nil h2
  obtain ⟨xs, rfl, h3⟩ := hasW_list h1
  obtain ⟨ns, rfl⟩ := items_int h3
  have hlen : ns.length <= n := by
    unfold OpenLaw.pre at hc
    have h4 : (WTm.not (.lt (.lit (.int (n : Int))) (.len (.arg 0)))).holds [] { args := [.list (ns.map .int)] } = true := by
      have h4 := (holds_andW hc).1
      rw [hn] at h4
      exact h4
    have h5 := condW_of h4 (w_not (w_lt w_lit (w_len_list (w_arg rfl))))
    rw [List.length_map] at h5
    refine Nat.le_of_not_lt fun q => ?_
    have q' : (n : Int) < ((ns.length : Nat) : Int) := by lia
    first
      | (rw [decide_eq_true q'] at h5; exact absurd h5 (by decide))
      | (simp at h5; lia)
  cases hwl with
  | cons w1 w2 =>
    cases w2
    cases w1 with
    | list ho hall => exact ⟨_, _, ns, rfl, rfl, ho, ints_of_wellAll ns _ hall, hlen⟩
theorem post_true (l : OpenLaw) (args : List WData) : l.row.toRowW.claim.post args (.bool true) args = true :=
  postW_of (r := l.row.toRowW) (X := (true == true))
    (show WShape.has [] (.bool true) .bool = true by first | rfl | decide | simp [WShape.has, WShape.arms, WShape.armsAll])
    (show (WTm.eq .res (.lit (.bool true))).value [] { args := args, res := some (.bool true), after := args } = some (.bool (true == true)) from w_eq_bool (w_res rfl) w_lit) rfl
theorem attach_call {l : OpenLaw} {n : Nat} {q : Program} {loose : List Str} {XP : (Str -> Option Value) -> Heap -> Prop} {YP : World -> Heap -> Prop} {d : DefRec}
    (hn : l.most = some n) (hdf : d.params.defaults = [])
    (call : ∀ (w : World) (s₀ s₁ : Shared) (mg mb : Str -> Option Value) (fa : Addr) (o : Obj) (pm cd doc : Value) (a : Addr) (vs : List Value) (ns : List Int),
      Ground q loose [] XP w s₀ mg mb s₁.heap -> YP w s₁.heap ->
      s₁.heap.get? fa = some o -> o.data = .func (docDef d.name d.params d.body d.scope pm cd doc) -> s₁.heap.CodeRec cd d.name -> mg d.name = some (.ref fa) ->
      s₁.heap.get? a = some { cls := .type "list", data := .seq vs.toArray } -> IntsAre vs ns -> ns.length <= n -> s₁.gens = #[] ->
      codeAny (model l.prog w) callerA (.call (.ref fa) ⟨[.ref a], []⟩) (fun r s' => r = .ok (.ret (.bool true)) /\ OldK s₁.heap s'.heap /\ s'.os = s₁.os /\ AllBare s'.gens) s₁) :
    WalkO q loose XP YP l.row.toRowW d [] (fun f vs => PySem.call f vs) := by
  intro w s₀ s₁ mg mb G Y fa o pm cd doc dV kV ho hd hcd hD hmg hg args vals as hpre hlay hrd hwl hlo
  obtain rfl : dV = .none := Dflts.none hD hdf
  obtain rfl : kV = .none := Dflts.noKw hD
  obtain ⟨a, vs, ns, rfl, rfl, hobj, hints, hlen⟩ := script_of hn hpre hwl
  refine enter_call (codeAny_mono (call w s₀ s₁ mg mb fa o pm cd doc a vs ns G Y ho (fd_plain hd) hcd hmg hobj hints hlen hg) fun r s' hq => ?_)
  obtain ⟨rfl, h2, h3, h4⟩ := hq
  exact ⟨.inl ⟨.bool true, .bool true, [], rfl, fun _ => rfl, .bool true, post_true l _, fun _ => ⟨List.Pairwise.nil, fun _ hm => (nomatch hm)⟩⟩, h2, h3, h4⟩
section
variable {prog : Program} {w : World} {A : Around} {E : Value -> Shared -> Prop} {s : Shared} {K : Frag}
end
end Att
namespace L2
open PySem PySem.Spec PyProof.Rows
theorem vals_ints : ∀ {vs : List Value} {ns : List Int}, IntsAre vs ns -> Vals (ns.map V.int) vs
  | _, _, .nil => .nil
  | _, _, .cons n t h => .cons ⟨t, rfl⟩ (vals_ints h)
def Only (H : Hp) : Prop := ∀ b, H b = none \/ ∃ o xs, H b = some (.frz o (.lst xs))
theorem law_call {P : Program} {w : World} {K : PySem.W.Frag} {mg mb : Str -> Option Value} {CX : CXT} {k : Nat} {fa a : Addr} {fd : FuncData} {x : Str} {sp : Sp} {s₁ : Shared} {vs : List Value} {ns : List Int}
    (KX : K.In s₁.heap) (hns : s₁.heap.Ns mainGlobals mg) (hb : s₁.heap.Ns builtinsNs mb) (hbb : ∀ x : Str, x ≠ "__name__" -> mb x = bootBuiltins x) (hlim : s₁.heap.NoLimit) (hg : s₁.gens = #[])
    (ha : s₁.heap.get? a = some { cls := .type "list", data := .seq vs.toArray }) (hi : IntsAre vs ns) (hl : ns.length <= sizeLine) (hr : Room k callerA)
    (F : ∀ base : Heap, K.In base -> base.Ns mainGlobals mg -> FnOk P w K mg base CX k fa fd [x] sp) (hbind : ∀ (s : Shared) (u : Value), BindsTo s fd ⟨[u], []⟩ [(x, u)])
    (hsp : ∀ H : Hp, Only H -> SqL K H a (ns.map V.int) -> sp [.ref a] H (fun v _ => v = .bl true) fun _ _ _ => False)
    (hCX : ∀ H e s', CX [] H s₁ (fun _ _ _ => False) e s' -> False) :
    codeAny (model P w) callerA (.call (.ref fa) ⟨[.ref a], []⟩) (fun r s' => r = .ok (.ret (.bool true)) /\ OldK s₁.heap s'.heap /\ s'.os = s₁.os /\ AllBare s'.gens) s₁ := by
  have rv := vals_ints hi
  have lenV := hi.length
  have core : ∀ H : Hp, Only H -> SqL K H a (ns.map V.int) -> HOk P w H s₁.heap -> (∀ b, H b ≠ none -> b = a) -> (H a ≠ none -> K.lookup a = none) ->
      codeAny (model P w) callerA (.call (.ref fa) ⟨[.ref a], []⟩) (fun r s' => r = .ok (.ret (.bool true)) /\ OldK s₁.heap s'.heap /\ s'.os = s₁.os /\ AllBare s'.gens) s₁ := by
    intro H hO hS hok hA hK
    have base_of : ∀ {b : Addr} {o : Obj}, s₁.heap.get? b = some o -> H b = none -> (hidT s₁.heap H).get? b = some o := fun e n => hidT_get e n
    have noA : ∀ {b : Addr} {o : Obj} {es : Array DictEntry} {ep : Nat}, s₁.heap.get? b = some o -> o.data = .dict es ep -> H b = none := fun {b o es ep} e d => by
      cases q : H b with
      | none => rfl
      | some u =>
        have e' : b = a := hA b (by rw [q]; simp)
        subst e'
        rw [ha] at e; cases e
        have d' : Data.seq vs.toArray _ = Data.dict es ep := d
        cases d'
    have nsK : ∀ {b : Addr} {m : Str -> Option Value}, s₁.heap.Ns b m -> (hidT s₁.heap H).Ns b m := fun {b m} ⟨o, es, ep, e, d, r⟩ => ⟨o, es, ep, base_of e (noA e d), d, r⟩
    have hKb : K.In (hidT s₁.heap H) := fun b o e => base_of (KX b o e) (by
      cases q : H b with
      | none => rfl
      | some u =>
        have e' : b = a := hA b (by rw [q]; simp)
        subst e'
        rw [hK (by rw [q]; simp)] at e; cases e)
    have hM : Mod K mg (hidT s₁.heap H) := ⟨hKb, nsK hns, ⟨mb, nsK hb, hbb⟩, let ⟨mc, h1, h2⟩ := hlim; ⟨mc, nsK h1, h2⟩⟩
    have e0 : Env0 P w K mg (hidT s₁.heap H) callerA [] s₁ H := ⟨rfl, hM, fun b o e => of_hidT e, Nat.le_of_eq (hidT_size _ _), trivial, fun b hb => absurd (show b ∈ ([] : List Addr) from hb) (by simp), hok, .of_eq hg⟩
    refine codeAny_mono ((F _ hKb (nsK hns)).run callerA [] s₁ H ⟨[.ref a], []⟩ [.ref a] [.ref a] _ _ hr e0 (hbind s₁ (.ref a)) (.cons rfl .nil) (hsp H hO hS)) fun r s' h => ?_
    cases r with
    | error e => exact (hCX H e s' h).elim
    | ok fl =>
      cases fl with
      | next => exact False.elim h
      | brk => exact False.elim h
      | cont => exact False.elim h
      | ret u =>
        obtain ⟨v, H', os, bare, un, hok', r', q⟩ := h
        have q' : v = .bl true := q
        subst q'
        obtain rfl : u = Value.bool true := r'
        refine ⟨rfl, OldK.of_keep fun b o e => ?_, os, bare⟩
        cases q : H b with
        | none => exact un.keep b o e q (by intro z; exact absurd (show b ∈ ([] : List Addr) from z) (by simp)) (by simp)
        | some u =>
          rcases hO b with z | ⟨ob, xs, z⟩
          · rw [q] at z; cases z
          · have z2 := un.frzs b ob _ z
            obtain ⟨e1, _⟩ := hok b _ z
            obtain ⟨e2, _⟩ := hok' b _ z2
            rw [e] at e1; cases e1
            exact e2
  cases hk : K.lookup a with
  | some o =>
    have e := KX a o hk
    rw [ha] at e
    cases e
    refine core (fun _ => none) (fun _ => .inl rfl) (.inr ⟨_, vs.toArray, _, hk, rfl, rfl, rfl, by rw [List.size_toArray, lenV]; exact hl, by simpa using rv⟩) (fun b u z => by have z' : (none : Option HO) = some u := z; cases z') (fun b z => absurd rfl z) fun z => absurd rfl z
  | none =>
    refine core (fun b => if b = a then some (.frz { cls := .type "list", data := .seq vs.toArray } (.lst (ns.map V.int))) else none) (fun b => ?_) (.inl (.inr ⟨{ cls := .type "list", data := .seq vs.toArray }, if_pos rfl⟩)) (fun b u z => ?_) (fun b z => ?_) fun _ => hk
    · by_cases hb : b = a
      · exact .inr ⟨_, _, if_pos hb⟩
      · exact .inl (if_neg hb)
    · by_cases hb : b = a
      · have z' := (if_pos hb).symm.trans z
        cases z'
        subst hb
        exact ⟨ha, by rw [List.length_map]; exact hl, vs, _, rv, ha⟩
      · have z' := (if_neg hb).symm.trans z
        cases z'
    · by_cases hb : b = a
      · exact hb
      · exact absurd (if_neg hb) z
abbrev KOf {K : PySem.W.Frag} {h : Heap} (_ : K.In h) : PySem.W.Frag := K
theorem walk_of {l : PySem.W.OpenLaw} {n k : Nat} {q : Program} {loose : List Str} {XP : (Str -> Option Value) -> Heap -> Prop} {YP : World -> Heap -> Prop} {d : DefRec} {K : Params -> PySem.W.Frag} {CX : World -> CXT} {sp : World -> Sp} {x : Str}
    (hn : l.most = some n) (hn2 : n <= sizeLine) (hdf : d.params.defaults = []) (hr : Room k callerA)
    (hY : ∀ (w : World) (h : Heap), YP w h -> (K w.params).In h)
    (F : ∀ (w : World) (mg : Str -> Option Value) (fa : Addr) (h : Heap), (K w.params).In h -> h.Ns mainGlobals mg -> mg d.name = some (.ref fa) ->
      ∃ fd : FuncData, (∀ (s : Shared) (u : Value), BindsTo s fd ⟨[u], []⟩ [(x, u)]) /\
        ∀ base : Heap, (K w.params).In base -> base.Ns mainGlobals mg -> FnOk l.prog w (K w.params) mg base (CX w) k fa fd [x] (sp w))
    (hsp : ∀ (w : World) (H : Hp) (a : Addr) (ns : List Int), ns.length <= n -> Only H -> SqL (K w.params) H a (ns.map V.int) -> sp w [.ref a] H (fun v _ => v = .bl true) fun _ _ _ => False)
    (hCX : ∀ (w : World) (H : Hp) (s : Shared) (e : Value) (s' : Shared), CX w [] H s (fun _ _ _ => False) e s' -> False) :
    PySem.W.WalkO q loose XP YP l.row.toRowW d [] (fun f vs => PySem.call f vs) := by
  refine Att.attach_call hn hdf fun w s₀ s₁ mg mb fa o pm cd doc a vs ns G Y ho hd hcd hmg hobj hints hlen hg => ?_
  have KX := hY w _ Y
  obtain ⟨fd, hb, hF⟩ := F w mg fa _ KX G.T.g hmg
  exact law_call KX G.T.g G.T.b G.T.builtins G.T.nolimit hg hobj hints (Nat.le_trans hlen hn2) hr hF hb (fun H hO hS => hsp w H a ns hlen hO hS) fun H e s' => hCX w H s₁ e s'
end L2
/- THE LAST THEOREM (shape; LID, My.* are yours):
   My.Adr: a structure of the addresses that your layer names (classes, functions); My.Txt K t: a structure (Prop) of the equations over K;
   My.txt_mk : {K} {implicit addresses ..} (e1 : nsIn K mainGlobals "law" = some (some (.ref f))) (e2 : K.lookup f = some ⟨oc, od, .func (fnOf "law" "law" params body scope dV kV doc pm an cdv ct), sl⟩) (e3 : codeIn K cdv "law" = true) .. : ∃ t, My.Txt K t
set_option maxRecDepth 100000 in
set_option maxHeartbeats 0 in
theorem PySem.Challenge.cw_LID_holds : PySem.Challenge.rw_LID.Holds := by
  w_on; o_law; k_head; (case hw => w_witness2)
  k_fill
  refine L2.walk_of (l := PySem.Challenge.rw_LID) (n := 63) (k := 40) (x := "script") (CX := fun w => ..) (sp := fun _ => My.sp_law) rfl (by decide) rfl ⟨rfl, by decide, by decide⟩ (fun w h Y => PySem.W.kIn_of Y) ?F ?S ?C
  case F =>
    intro w mg fa h KX G hmg
    have T : ∃ t, My.Txt (L2.KOf KX) t := by
      dsimp only [L2.KOf]                          -- K must stand as «<heap const> w.params» for k_is
      refine' My.txt_mk ?e1 ?e2 ?e3 ..
      (case e1 => PySem.W.k_is)                    -- in the order: a name -> its address -> its object -> its parts
      (case e2 => PySem.W.k_is)
      ..
    obtain ⟨t, T⟩ := T
    have e0 := hmg.symm.trans (PySem.W.mg_of KX G T.law)
    cases e0                                       -- fa is the law's own address
    exact ⟨_, fun s u => .of_eq rfl, fun base kb nb => My.law_fn T kb nb⟩     -- if «.of_eq rfl» comes too early: refine' ⟨_, ?b, fun base kb nb => My.law_fn T kb nb⟩; exact fun s u => .of_eq rfl
  case S => exact fun w H a ns hl hO hS => ..
  case C => exact ..
(the tactic k_is has no namespace: write k_is) -/
namespace L2
open PySem PySem.Spec PyProof.Rows
def inClass (s : Stmt) (j : Nat) : Stmt := match s with
  | .ClassDef _ _ _ body _ _ _ _ _ _ _ => body.getD j (.Pass ⟨0, 0, 0, 0⟩)
  | _ => .Pass ⟨0, 0, 0, 0⟩
def defArgs (s : Stmt) : Arguments := match s with
  | .FunctionDef _ a _ _ _ _ _ _ _ _ => a
  | _ => { posonlyargs := [], args := [], vararg := none, kwonlyargs := [], kw_defaults := [], kwarg := none, defaults := [] }
def defBody (s : Stmt) : List Stmt := match s with
  | .FunctionDef _ _ b _ _ _ _ _ _ _ => b
  | _ => []
def defScope (s : Stmt) : Scope := match s with
  | .FunctionDef _ _ _ _ _ _ sc _ _ _ => sc
  | _ => { kind := .function, names := [], isGenerator := false, isCoroutine := false }
abbrev CX0 : CXT := fun _ _ _ _ _ _ => False
abbrev E0 : XK := fun _ _ _ => False
theorem pass0 {X : Cx} : Passes CX0 X E0 := fun _ _ _ _ _ _ _ h => h.elim
structure Fun (K : PySem.W.Frag) (x qual : Str) (st : Stmt) (f : Addr) (fd : FuncData) : Prop where
  ex : ∃ (oc : Value) (od : Option Addr) (kV doc pm : Value) (an : Option Addr) (cdv ct : Value) (osl : Array (Option Value)),
    fd = PySem.W.fnOf x qual (defArgs st) (defBody st) (defScope st) .none kV doc pm an cdv ct /\ K.lookup f = some ⟨oc, od, .func fd, osl⟩ /\ PySem.W.codeIn K cdv qual = true
  kp : PySem.W.keepIn K (.ref f) = true
section
variable {P : Program} {w : World} {K : PySem.W.Frag} {mg : Str -> Option Value} {base : Heap}
theorem Fun.ok {x qual : Str} {st : Stmt} {f : Addr} {fd : FuncData} {N ps : List Str} {k : Nat} {sp : Sp} (F : Fun K x qual st f fd) (S : FnScope N ps (defScope st)) (len : ∀ vs H Q E, sp vs H Q E -> vs.length = ps.length)
    (hbody : ∀ (cdv : Value) (A : Around) (outer : List Env) (s : Shared) (H : Hp) (vs : List V) (Q : VK) (E : XK), Room k (A.deeper (envOfC qual (defScope st) s.heap.objs.size f cdv)) -> sp vs H Q E ->
      ∃ t, PSs (cxOf CX0 P w K mg base N qual (defScope st) f cdv A outer s H E).nox (defBody st) t /\ t { nx := fun _ H' => Q .non H', rt := Q } (start N vs) H) : FnOk P w K mg base CX0 (k + 1) f fd ps sp := by
  obtain ⟨oc, od, kV, doc, pm, an, cdv, ct, osl, rfl, lk, hcd⟩ := F.ex
  refine fn_of lk hcd S len fun A outer s H vs Q E hr hsp => ?_
  obtain ⟨t, h, q⟩ := hbody cdv A outer s H vs Q E hr hsp
  exact ⟨t, h.nox, q⟩
theorem Fun.binds {x qual : Str} {st : Stmt} {f : Addr} {fd : FuncData} {ps : List Str} (F : Fun K x qual st f fd)
    (h : ∀ (kV doc pm : Value) (an : Option Addr) (cdv ct : Value) (us : List Value), us.length = ps.length -> bindArgs (PySem.W.fnOf x qual (defArgs st) (defBody st) (defScope st) .none kV doc pm an cdv ct) ⟨us, []⟩ = pure (ps.zip us)) : Binds K fd ps [] := by
  obtain ⟨oc, od, kV, doc, pm, an, cdv, ct, osl, rfl, lk, hcd⟩ := F.ex
  exact .all (h kV doc pm an cdv ct)
theorem fun_mk {x qual : Str} {st : Stmt} {f : Addr} {oc : Value} {od an : Option Addr} {osl : Array (Option Value)} {kV doc pm cdv ct : Value} (l : K.lookup f = some ⟨oc, od, .func (PySem.W.fnOf x qual (defArgs st) (defBody st) (defScope st) .none kV doc pm an cdv ct), osl⟩)
    (c : PySem.W.codeIn K cdv qual = true) (k : PySem.W.keepIn K (.ref f) = true) : Fun K x qual st f (PySem.W.fnOf x qual (defArgs st) (defBody st) (defScope st) .none kV doc pm an cdv ct) := ⟨⟨oc, od, kV, doc, pm, an, cdv, ct, osl, rfl, l, c⟩, k⟩
end
theorem hu_of {A : Around} {k : Nat} (hr : Room k A) : A.units + 1 < cLine := Nat.lt_of_le_of_lt (Nat.add_le_add_left (by decide : 1 <= 64) _) hr.units
section
variable {X : Cx}
theorem pv (i : Nat) {x : Str} {pos : Pos} (hN : X.N[i]? = some x := by rfl) (hv : Vis X.env.scope x := by first | exact Or.inl rfl | exact Or.inr (Or.inl rfl) | exact Or.inr (Or.inr rfl)) (hd : (x == ("__debug__" : Str)) = false := by decide)
    (hcd : (x == ("__classdict__" : Str)) = false := by decide) : PE X (.Name x pos) (tVar i) := pe_var hN hv hd hcd
end
theorem iteF {A B : Prop} (h : B) : if false = true then A else B := by
  rw [if_neg Bool.false_ne_true]
  exact h
theorem iteT {A B : Prop} (h : A) : if true = true then A else B := by
  rw [if_pos rfl]
  exact h
theorem ite2 {c A B : Prop} [Decidable c] (h1 : c -> A) (h2 : ¬ c -> B) : if c then A else B := by
  by_cases h : c
  · rw [if_pos h]
    exact h1 h
  · rw [if_neg h]
    exact h2 h
def Same (H H' : Hp) : Prop := ∀ b o, H b = some o -> H' b = some o
theorem Same.refl (H : Hp) : Same H H := fun _ _ h => h
theorem Same.trans {H H1 H2 : Hp} (a : Same H H1) (b : Same H1 H2) : Same H H2 := fun c o h => b c o (a c o h)
theorem Same.free {H H' : Hp} (e : Same H H') {l : Addr} (h : H' l = Option.none) : H l = Option.none := by
  cases q : H l with
  | none => rfl
  | some o =>
    rw [e l o q] at h
    cases h
theorem Same.seq {K : PySem.W.Frag} {H H' : Hp} {a : Addr} {xs : List V} (e : Same H H') (h : SqL K H a xs) : SqL K H' a xs := by
  rcases h with (h | ⟨o, h⟩) | h
  · exact .inl (.inl (e _ _ h))
  · exact .inl (.inr ⟨o, e _ _ h⟩)
  · exact .inr h
def PIfs (X : Cx) (ifs : List Expr) (t : TT) : Prop :=
  ∀ (pins : List (Addr × Obj)) (s : Shared) (σ : St) (H : Hp) (Q : Bool -> Hp -> Prop), Inv X pins σ H s -> t σ H Q ->
    wpAny (model X.prog X.w) X.A (forIn ifs true fun c r => if r = true then do
      let ok <- isTrue c X.env (eval c X.env)
      pure (ForInStep.yield ok) else pure (ForInStep.yield r)) (TP X pins σ Q) X.xe s
def tYes : TT := fun _ H Q => Q true H
theorem pifs_nil {X : Cx} : PIfs X [] tYes := fun _ _ _ H _ I h => wpAny_tests_nil ⟨H, I, h⟩
theorem pifs_one {X : Cx} {c : Expr} {t : TT} (h : PT X c t) : PIfs X [c] t := fun pins s σ H Q I hw => wpAny_tests_one (h pins s σ H Q I hw)
def clOf (env : Env) : List (Str × NameKind) -> List (Str × Addr) -> List (Str × Addr)
  | [], cs => cs
  | (n, k) :: r, cs => clOf env r (if (k == NameKind.free) = true then (n, (env.cells.lookup n).getD 0) :: cs else cs)
theorem clOf_loop {env : Env} : ∀ (names : List (Str × NameKind)) (cs : List (Str × Addr)), (∀ x ∈ names, x.2 = .free -> ∃ c, env.cells.lookup x.1 = some c) ->
    (forIn names cs fun (x : Str × NameKind) (r : List (Str × Addr)) => (if (x.2 == NameKind.free) = true then do
      let a <- cellOf env x.1
      pure (ForInStep.yield ((x.1, a) :: r)) else pure (ForInStep.yield r) : Sem (ForInStep (List (Str × Addr))))) = pure (clOf env names cs)
  | [], cs, _ => rfl
  | (n, k) :: r, cs, h => by
    rw [List.forIn_cons]
    by_cases hk : (k == NameKind.free) = true
    · obtain ⟨c, hc⟩ := h (n, k) List.mem_cons_self (by simpa using hk)
      have hc' : env.cells.lookup n = some c := hc
      have e1 : cellOf env n = pure c := by unfold cellOf; rw [hc']
      simp only [hk, if_true, e1, pure_bind]
      rw [clOf_loop r _ fun x hx => h x (List.mem_cons_of_mem _ hx)]
      simp [clOf, hk, hc']
    · simp only [hk, pure_bind]
      rw [if_neg (by simp), pure_bind]
      dsimp only
      rw [clOf_loop r _ fun x hx => h x (List.mem_cons_of_mem _ hx)]
      simp [clOf, hk]
theorem closure_is {scope : Scope} {env : Env} (h : ∀ x ∈ scope.names, x.2 = .free -> ∃ c, env.cells.lookup x.1 = some c) : closureFor scope env = pure (clOf env scope.names []) := by
  have e := clOf_loop scope.names [] h
  simp only [closureFor]
  first
    | (rw [e]; rfl)
    | (refine Eq.trans (congrArg (fun t => t >>= _) e) ?_; rfl)
    | (simp only [e]; rfl)
theorem clOf_get {env : Env} {x : Str} {c : Addr} : ∀ (names : List (Str × NameKind)) (cs : List (Str × Addr)), (∀ y ∈ names, y.2 = .free -> ∃ d, env.cells.lookup y.1 = some d) ->
    (clOf env names cs).lookup x = some c -> cs.lookup x = some c \/ env.cells.lookup x = some c
  | [], cs, _, e => .inl e
  | (n, k) :: r, cs, h, e => by
    have e' : (clOf env r (if (k == NameKind.free) = true then (n, (env.cells.lookup n).getD 0) :: cs else cs)).lookup x = some c := e
    rcases clOf_get r _ (fun y hy => h y (List.mem_cons_of_mem _ hy)) e' with q | q
    · by_cases hk : (k == NameKind.free) = true
      · rw [if_pos hk] at q
        obtain ⟨d, hd⟩ := h (n, k) List.mem_cons_self (by simpa using hk)
        have hd' : env.cells.lookup n = some d := hd
        rw [List.lookup_cons] at q
        by_cases hx : (x == n) = true
        · rw [hx] at q
          have ex : x = n := by simpa using hx
          subst ex
          rw [hd'] at q
          simp at q
          exact .inr (by rw [hd', q])
        · simp only [hx] at q
          exact .inl q
      · rw [if_neg hk] at q
        exact .inl q
    · exact .inr q
theorem clOf_keep {env : Env} {x : Str} : ∀ (names : List (Str × NameKind)) (cs : List (Str × Addr)), (∃ c, cs.lookup x = some c) -> ∃ c, (clOf env names cs).lookup x = some c
  | [], cs, h => h
  | (n, k) :: r, cs, h => by
    refine clOf_keep r _ ?_
    by_cases hk : (k == NameKind.free) = true
    · rw [if_pos hk, List.lookup_cons]
      cases hx : x == n with
      | true => exact ⟨_, rfl⟩
      | false => exact h
    · rw [if_neg hk]; exact h
theorem clOf_has {env : Env} {x : Str} : ∀ (names : List (Str × NameKind)) (cs : List (Str × Addr)), (x, NameKind.free) ∈ names -> ∃ c, (clOf env names cs).lookup x = some c
  | (n, k) :: r, cs, h => by
    show ∃ c, (clOf env r (if (k == NameKind.free) = true then (n, (env.cells.lookup n).getD 0) :: cs else cs)).lookup x = some c
    rcases List.mem_cons.mp h with e | e
    · cases e
      refine clOf_keep r _ ⟨(env.cells.lookup x).getD 0, ?_⟩
      rw [if_pos (by rfl), List.lookup_cons]
      simp
    · exact clOf_has r _ e
def relN (env : Env) (names : List (Str × NameKind)) : List (Str × NameKind) :=
  names.map fun (n, k) => if (k == NameKind.free && env.scope.kind == .function && env.kindOf n == some .cell) then (n, NameKind.cell) else (n, k)
theorem relN_get {env : Env} {x : Str} {k' : NameKind} : ∀ (names : List (Str × NameKind)), (relN env names).lookup x = some k' -> ∃ k, names.lookup x = some k /\ (k' = k \/ (k = .free /\ k' = .cell))
  | [], h => by simp [relN] at h
  | (n, k) :: r, h => by
    have ih := relN_get (env := env) (x := x) (k' := k') r
    have h' : ((if (k == NameKind.free && env.scope.kind == .function && env.kindOf n == some .cell) = true then (n, NameKind.cell) else (n, k)) :: relN env r).lookup x = some k' := h
    by_cases hc : (k == NameKind.free && env.scope.kind == .function && env.kindOf n == some .cell) = true
    · rw [if_pos hc, List.lookup_cons] at h'
      rw [List.lookup_cons]
      cases hx : x == n with
      | true =>
        rw [hx] at h'
        have h2 : NameKind.cell = k' := Option.some.inj h'
        have hk : k = .free := by
          cases k <;> first | rfl | (simp at hc)
        exact ⟨k, rfl, .inr ⟨hk, h2.symm⟩⟩
      | false =>
        rw [hx] at h'
        exact ih h'
    · rw [if_neg hc, List.lookup_cons] at h'
      rw [List.lookup_cons]
      cases hx : x == n with
      | true =>
        rw [hx] at h'
        exact ⟨k, rfl, .inl (Option.some.inj h').symm⟩
      | false =>
        rw [hx] at h'
        exact ih h'
def cxComp (X : Cx) (scope : Scope) (N' : List Str) (fp : List Addr) (C : Addr) (s : Shared) (H : Hp) : Cx where
  prog := X.prog
  w := X.w
  K := X.K
  mg := X.mg
  base := X.base
  A := X.A
  N := N'
  s₀ := s
  H₀ := H
  env := compEnvC scope (clOf X.env scope.names []) C X.env
  outer := X.stack
  stack := X.stack
  ex := fp
  fn := fun _ => false
  calm := true
  pn := X.pn
  xe := fun _ _ => False
def stComp (fr : List (Option Nat)) (σ : St) : St := fr.map fun o => o.bind fun j => (σ[j]?).join
def frOk (N : List Str) (kinds names : List (Str × NameKind)) (N' : List Str) (fr : List (Option Nat)) : Bool :=
  (N'.length == fr.length) && (N'.zip fr).all fun p => match p.2 with
    | none => true
    | some j => N[j]? == some p.1 && names.lookup p.1 == some NameKind.free && (kinds.lookup p.1 == some NameKind.cell || kinds.lookup p.1 == some NameKind.free)
theorem frOk_at {N : List Str} {kinds names : List (Str × NameKind)} {N' : List Str} {fr : List (Option Nat)} (h : frOk N kinds names N' fr = true) {i j : Nat} {x : Str} (h1 : N'[i]? = some x) (h2 : fr[i]? = some (some j)) :
    N[j]? = some x /\ names.lookup x = some NameKind.free /\ (kinds.lookup x = some NameKind.cell \/ kinds.lookup x = some NameKind.free) := by
  unfold frOk at h
  rw [Bool.and_eq_true, List.all_eq_true] at h
  have hm : (x, some j) ∈ N'.zip fr := by
    refine List.mem_of_getElem? (i := i) ?_
    rw [List.getElem?_zip_eq_some]
    exact ⟨h1, h2⟩
  have q := h.2 _ hm
  simp only [Bool.and_eq_true, Bool.or_eq_true, beq_iff_eq] at q
  exact ⟨q.1.1, q.1.2, q.2⟩
structure CompOk (X : Cx) (scope : Scope) (N' : List Str) (fr : List (Option Nat)) : Prop where
  kind : scope.kind = .function
  cells : ∀ y ∈ scope.names, y.2 ≠ .cell
  names : ∀ y ∈ scope.names, y.2 = .local -> scope.names.lookup y.1 = some .local
  frees : ∀ y ∈ scope.names, y.2 = .free -> X.env.kindOf y.1 = some .cell \/ X.env.kindOf y.1 = some .free
  fr : frOk X.N X.env.scope.names scope.names N' fr = true
section
variable {X : Cx} {scope : Scope} {N' : List Str} {fr : List (Option Nat)} {pins : List (Addr × Obj)} {σ : St} {H : Hp} {s : Shared} {fp : List Addr}
theorem CompOk.has (c : CompOk X scope N' fr) (ok : X.Ok) : ∀ y ∈ scope.names, y.2 = .free -> ∃ d, X.env.cells.lookup y.1 = some d := fun y hy h => ok.has _ (c.frees y hy h)
theorem inv_comp {C : Addr} {h' : Heap} {tk : Nat} {m : Str -> Option Value} (c : CompOk X scope N' fr) (hc : X.calm = true) (I : Inv X pins σ H s) (hf : ∀ b ∈ fp, FpOk X pins H b) (hlt : ∀ b ∈ fp, b < s.heap.objs.size)
    (old : ∀ b o, s.heap.get? b = some o -> h'.get? b = some o) (hC : s.heap.objs.size <= C) (hn : h'.Ns C m) :
    Inv (cxComp X scope N' fp C s H) pins (stComp fr σ) H { s with heap := h', toks := tk } := by
  have get : ∀ x d, (clOf X.env scope.names []).lookup x = some d -> X.env.cells.lookup x = some d := fun x d e => by
    rcases clOf_get scope.names [] (c.has I.ok) e with q | q
    · simp at q
    · exact q
  have old2 : ∀ b, b < s.heap.objs.size -> b ≠ C := fun b hb => Nat.ne_of_lt (Nat.lt_of_lt_of_le hb hC)
  have hl : (stComp fr σ).length = N'.length := by
    have q := c.fr
    unfold frOk at q
    rw [Bool.and_eq_true] at q
    have q1 : N'.length = fr.length := by simpa using q.1
    rw [stComp, List.length_map, q1]
  refine ⟨⟨I.ok.mod, c.kind, I.ok.glob, I.ok.blt, hC, ?_, ?_, (fun _ _ z => nomatch z), fun _ => I.ok.hd hc, I.ok.frames, .inl rfl, ?_, I.bs, Nat.le_trans I.ok.bsz I.sz, ?_, ?_, I.stack, I.stkFree⟩, rfl, I.bare, Un.kept old, ⟨m, hn, ?_⟩, ?_, I.hok.fresh hC, ?_, ?_, I.hok.kept old, hl⟩
  · exact fun x y d e1 e2 => I.ok.inj x y d (get x d e1) (get y d e2)
  · intro x hx
    have hx' : (relN X.env scope.names).lookup x = some .cell \/ (relN X.env scope.names).lookup x = some .free := hx
    have fin : scope.names.lookup x = some .free -> ∃ d, (clOf X.env scope.names []).lookup x = some d := fun e => clOf_has scope.names [] (PySem.mem_of_lookup e)
    rcases hx' with q | q
    · obtain ⟨k, e, z⟩ := relN_get scope.names q
      rcases z with z | ⟨z, _⟩
      · subst z
        exact absurd rfl (c.cells _ (PySem.mem_of_lookup e))
      · subst z
        exact fin e
    · obtain ⟨k, e, z⟩ := relN_get scope.names q
      rcases z with z | ⟨_, z⟩
      · subst z
        exact fin e
      · cases z
  · exact fun b hb => ⟨old2 b (hlt b hb), fun x d e => (hf b hb).2.2.2.2.1 x d (get x d e)⟩
  · intro b o e hb
    rcases (hf b hb).2.2.2.1 with z | z
    · exact I.ok.noex b o e z
    · exact absurd (Nat.lt_of_lt_of_le (Heap.lt_size e) (Nat.le_trans I.ok.bsz z)) (Nat.lt_irrefl _)
  · intro b hb hs
    rcases List.mem_cons.mp (I.stkSub b hs) with z | z
    · exact (hf b hb).2.1 z
    · exact (hf b hb).2.2.1 z
  · intro i x v e1 e2 e3
    have e2' : (fr.map fun o => o.bind fun j => (σ[j]?).join)[i]? = some (some v) := e2
    rw [List.getElem?_map] at e2'
    cases q : fr[i]? with
    | none => rw [q] at e2'; cases e2'
    | some o =>
      rw [q] at e2'
      have e3' : (o.bind fun j => (σ[j]?).join) = some v := Option.some.inj e2'
      cases o with
      | none => cases e3'
      | some j =>
        have e4 : (σ[j]?).join = some v := e3'
        have e5 : σ[j]? = some (some v) := by
          cases z : σ[j]? with
          | none => rw [z] at e4; cases e4
          | some w => rw [z] at e4; exact congrArg some e4
        obtain ⟨f1, f2, f3⟩ := frOk_at c.fr e1 q
        obtain ⟨m0, hn0, hl0⟩ := I.loc
        have vis : Vis X.env.scope x := f3.elim (fun z => .inr (.inl z)) fun z => .inr (.inr z)
        obtain ⟨u, r, look⟩ := hl0 j x v f1 e5 vis
        refine ⟨u, r, ?_⟩
        rcases look with ⟨k, _⟩ | ⟨k, d, hd, hcell⟩
        · have k' : X.env.scope.names.lookup x = some .local := k
          rcases f3 with z | z <;> (rw [k'] at z; cases z)
        · refine .inr ⟨?_, d, ?_, ?_⟩
          · have e3'' : (relN X.env scope.names).lookup x = some .local \/ (relN X.env scope.names).lookup x = some .cell \/ (relN X.env scope.names).lookup x = some .free := e3
            rcases e3'' with z | z | z
            · obtain ⟨k2, e, z2⟩ := relN_get scope.names z
              rw [f2] at e
              cases e
              rcases z2 with z2 | ⟨_, z2⟩ <;> cases z2
            · exact .inl z
            · exact .inr z
          · obtain ⟨d', e⟩ := clOf_has (env := X.env) scope.names [] (PySem.mem_of_lookup f2)
            have := get x d' e
            rw [hd] at this
            cases this
            exact e
          · obtain ⟨ob, h1, h2⟩ := hcell
            exact ⟨ob, old _ _ h1, h2⟩
  · intro x d e
    obtain ⟨v, ob, h1, h2⟩ := I.cell x d (get x d e)
    exact ⟨v, ob, old _ _ h1, h2⟩
  · exact fun x d e => I.freeC x d (get x d e)
  · intro p hp
    obtain ⟨e, n, ne, nf, dd⟩ := I.pin p hp
    refine ⟨old _ _ e, n, old2 _ (Heap.lt_size e), fun hs => ?_, dd⟩
    rcases List.mem_cons.mp (I.stkSub p.1 hs) with z | z
    · exact ne z
    · exact nf z
end
section
variable {prog : Program} {w : World} {A : Around} {R : Result -> Shared -> Prop} {s : Shared}
theorem comp_loop {elt tg iter : Expr} {ifs : List Expr} {scope : Scope} {pos : Pos} {it acc : Value} {env : Env} (J : Nat -> Shared -> Prop)
    (turn : ∀ n s, J n s -> wpAny (model prog w) A (pyNext it) (fun r s1 => match r with
      | none => R (.ok .next) s1
      | some v => wpAny (model prog w) A (letOwnedTupleGo tg it v) (fun _ s2 => wpAny (model prog w) A (assign tg env v) (fun _ s3 =>
          wpAny (model prog w) A (forIn ifs true fun c r => if r = true then do
            let ok <- isTrue c env (eval c env)
            pure (ForInStep.yield ok) else pure (ForInStep.yield r)) (fun ok s4 =>
              if ok = true then wpAny (model prog w) A (eval elt env) (fun x s5 =>
                wpAny (model prog w) A (call (.builtin "list.append") [acc, x]) (fun _ s6 => ∃ m, m < n /\ J m s6) (fun _ _ => False) s5) (fun _ _ => False) s4
              else ∃ m, m < n /\ J m s4) (fun _ _ => False) s3) (fun _ _ => False) s2) (fun _ _ => False) s1) (fun _ _ => False) s)
    (n : Nat) (h : J n s) : codeAny (model prog w) A (.compLoop (.ListComp elt [⟨tg, iter, ifs, 0⟩] scope pos) 0 it acc env) R s := by
  refine codeAny_loop rfl J (fun k s1 hJ => ?_) n h
  show wpAny _ A ((compTurn (.ListComp elt [⟨tg, iter, ifs, 0⟩] scope pos) 0 it acc env).onRaise (fun y => do noteFrame y env; theTreesLotGoes y)) _ _ s1
  refine wpAny_noted (wpAny_mono (E := fun _ _ => False) ?_ (fun _ _ q => q) fun _ _ z => z.elim)
  rw [compTurn_list]
  refine wpAny_bind (wpAny_standAt (wpAny_bind (thn (turn k s1 hJ) fun r s2 h2 => ?_)))
  cases r with
  | none => exact wpAny_pure h2
  | some v =>
    refine wpAny_bind (thn h2 fun _ s3 h3 => wpAny_bind (thn h3 fun _ s4 h4 => wpAny_bind (thn h4 fun ok s5 h5 => ?_)))
    cases ok with
    | false => exact wpAny_pure ⟨rfl, h5⟩
    | true =>
      refine wpAny_bind (wpAny_bind (thn h5 fun x s6 h6 => wpAny_bind (thn h6 fun _ s7 h7 => ?_)))
      exact wpAny_pure (wpAny_pure ⟨rfl, h7⟩)
end
theorem HOk.track {P : Program} {w : World} {H : Hp} {h : Heap} {a : Addr} {o : HO} (ok : HOk P w H h) (hn : H a = none) (new : ObjOk P w (upd H a o) h a o) : HOk P w (upd H a o) h := fun b u q => by
  by_cases hb : b = a
  · subst hb
    rw [upd_same] at q
    cases q
    exact new
  · rw [upd_ne hb] at q
    exact (ok b u q).stay (fun _ _ _ r => r) (fun c r => by rw [upd_ne (ne_of_none r hn)]; exact r) fun c xs r => by rw [upd_ne (ne_of_none r hn)]; exact r
def CompW (J : It) (g : TG) (tt : TT) (te : TE) (fin : List V -> Hp -> Prop) (W : Nat -> Nat -> List V -> St -> Hp -> Prop) : Prop :=
  ∀ i m ys σ H, W i m ys σ H -> (J.stop i H /\ ys.length <= sizeLine /\ fin ys H) \/ (J.go i H /\ ys.length < sizeLine /\ ∀ x H', J.yld i H x H' -> g x σ H' fun σ2 H2 => tt σ2 H2 fun b H3 =>
    if b = true then te σ2 H3 fun y H4 => ∃ m', m' < m /\ W (i + 1) m' (ys ++ [y]) σ2 H4 else ∃ m', m' < m /\ W (i + 1) m' ys σ2 H3)
section
variable {X : Cx} {scope : Scope} {N' : List Str} {fr : List (Option Nat)} {pins : List (Addr × Obj)} {σ : St} {H : Hp} {s : Shared} {fp : List Addr} {it : Addr} {tn : Nat -> Heap -> Prop} {J : It}
  {elt tg iter : Expr} {ifs : List Expr} {g : TG} {tt : TT} {te : TE} {pos : Pos} {fin : List V -> Hp -> Prop} {W : Nat -> Nat -> List V -> St -> Hp -> Prop} {RR : Value -> Addr -> Result -> Shared -> Prop} {E : Value -> Shared -> Prop}
theorem comp_block (c : CompOk X scope N' fr) (hc : X.calm = true) (I : Inv X pins σ H s) (T : Turn X.prog X.w X.K tg J fp it tn) (st : tn 0 s.heap) (hf : ∀ b ∈ fp, FpOk X pins H b)
    (hg : ∀ fp C s H, PG (cxComp X scope N' fp C s H) tg g) (ht : ∀ fp C s H, PIfs (cxComp X scope N' fp C s H) ifs tt) (he : ∀ fp C s H, PE (cxComp X scope N' fp C s H) elt te)
    (hW : CompW J g tt te fin W) (h0 : ∃ m, W 0 m [] (stComp fr σ) H)
    (hRR : ∀ D C ys H' s', Inv X pins σ (upd H' D (.lst ys)) s' -> (∃ m, s'.heap.Ns C m) -> FpOk X pins (upd H' D (.lst ys)) C -> H' D = none -> fin ys H' -> RR (.ref D) C (.ok .next) s') :
    wpAny (model X.prog X.w) X.A (newList []) (fun acc s3 => wpAny (model X.prog X.w) X.A (newFunctionEnv scope X.env.globals (clOf X.env scope.names []) [] X.env.qual none .none (some X.env)) (fun cenv s4 =>
      codeAny (model X.prog X.w) X.A (.compStart (.ListComp elt [⟨tg, iter, ifs, 0⟩] scope pos) 0 (.ref it) acc { cenv with scope := relabel scope X.env }) (RR acc cenv.locals) s4) E s3) E s := by
  refine wpAny_newObj_type (wpAny_newFunctionEnv c.cells (by intro y hy; simp at hy) (fun h1 hns hsb => ?_) c.kind)
  dsimp only at hns hsb ⊢
  generalize hH2 : s.heap.push { cls := .type "list", dict := none, data := .seq ([] : List Value).toArray } = H2 at hns hsb ⊢
  have hD0 : s.heap.objs.size < H2.objs.size := by rw [<- hH2, Heap.size_push]; exact Nat.lt_succ_self _
  generalize hDD : s.heap.objs.size = D at hD0 ⊢
  generalize hCC : H2.objs.size = C at hns hsb hD0 ⊢
  have up : ∀ b o, s.heap.get? b = some o -> h1.get? b = some o := fun b o e => hsb.extBut b o (by
    have := Heap.lt_size e
    rw [hDD] at this
    exact Nat.ne_of_lt (Nat.lt_trans this hD0)) (Heap.get?_push_of_some _ (by rw [<- hH2]; exact Heap.get?_push_of_some _ e))
  have accD : h1.get? D = some { cls := .type "list", dict := none, data := .seq ([] : List Value).toArray } := hsb.extBut _ _ (Nat.ne_of_lt hD0) (Heap.get?_push_of_some _ (by rw [<- hH2, <- hDD]; exact Heap.get?_push_size _ rfl))
  have hlt : ∀ b ∈ fp, b < s.heap.objs.size := fun b hb => by
    obtain ⟨o, e, _⟩ := T.obj 0 _ st b hb
    exact Heap.lt_size e
  have hle : s.heap.objs.size <= C := by rw [hDD]; exact Nat.le_of_lt hD0
  generalize hX' : cxComp X scope N' fp C s H = X'
  have I1 : Inv X' pins (stComp fr σ) H { s with heap := h1, toks := s.toks + ([] : List (Str × Value)).length } := by
    subst hX'
    exact inv_comp c hc I hf hlt up hle hns
  have st1 : tn 0 h1 := T.keep _ _ _ st fun b hb o e => up b o e
  have pm : X'.prog = X.prog := by subst hX'; rfl
  have wm : X'.w = X.w := by subst hX'; rfl
  have km : X'.K = X.K := by subst hX'; rfl
  have cm : X'.calm = true := by subst hX'; rfl
  have am : X'.A = X.A := by subst hX'; rfl
  have xm : X'.xe = fun _ _ => False := by subst hX'; rfl
  have lm : X'.env.locals = C := by subst hX'; rfl
  have szm : X'.s₀.heap.objs.size = s.heap.objs.size := by subst hX'; rfl
  have nm : X'.pn = X.pn := by subst hX'; rfl
  have hg' := hg fp C s H
  have ht' := ht fp C s H
  have he' := he fp C s H
  have em : X'.env = compEnvC scope (clOf X.env scope.names []) C X.env := by subst hX'; rfl
  have fsm : X'.fs = frs X.stack := by subst hX'; rfl
  have exm : X'.ex = fp := by subst hX'; rfl
  rw [hX'] at hg' ht' he'
  have ageP : ∀ p ∈ X.pn ++ pins, p.1 < D := fun p hp => by rw [<- hDD]; exact Heap.lt_size (I.pin p hp).1
  have ageC : ∀ x d, X'.env.cells.lookup x = some d -> d < D := fun x d e => by
    rw [em] at e
    rcases clOf_get scope.names [] (c.has I.ok) e with q | q
    · simp at q
    · obtain ⟨v, z⟩ := I.cell x d q
      rw [<- hDD]
      exact z.lt
  have cellF : ∀ x d, X'.env.cells.lookup x = some d -> X.env.cells.lookup x = some d := fun x d e => by
    rw [em] at e
    rcases clOf_get scope.names [] (c.has I.ok) e with q | q
    · simp at q
    · exact q
  have fps : ∀ {H' : Hp} {oD : Obj}, (∀ b ∈ fp, H' b = none) -> ∀ b ∈ fp, FpOk X' (pins ++ [(D, oD)]) H' b := fun {H' oD} hn b hb => by
    obtain ⟨_, f1, f2, f3, f4, f5⟩ := hf b hb
    have hbD : b < D := by rw [<- hDD]; exact hlt b hb
    refine ⟨hn b hb, ?_, ?_, .inl (by rw [exm]; exact hb), fun x d e => f4 x d (cellF x d e), fun p hp => ?_⟩
    · rw [lm]; exact Nat.ne_of_lt (Nat.lt_trans hbD hD0)
    · rw [fsm]
      intro hs
      rcases List.mem_cons.mp (I.stkSub b hs) with z | z
      · exact f1 z
      · exact f2 z
    · rw [nm, <- List.append_assoc] at hp
      rcases List.mem_append.mp hp with z | z
      · exact f5 p z
      · rw [List.mem_singleton.mp z]
        exact Nat.ne_of_gt hbD
  have pinD : ∀ {σ' : St} {H' : Hp} {s' : Shared} {its : List Value} {k : Nat}, Inv X' pins σ' H' s' -> s'.heap.get? D = some { cls := .type "list", data := .seq its.toArray k } -> H' D = none ->
      Inv X' (pins ++ [(D, { cls := .type "list", data := .seq its.toArray k })]) σ' H' s' := fun {σ' H' s' its k} J0 e n => J0.pins_of fun p hp => by
    rcases List.mem_append.mp hp with z | z
    · exact J0.pin p (List.mem_append_right _ z)
    · rw [List.mem_singleton.mp z]
      refine ⟨e, n, ?_, ?_, fun v q => by cases q⟩
      · show D ≠ X'.env.locals
        rw [lm]
        exact Nat.ne_of_lt hD0
      · rw [fsm]
        intro hs
        have hb := I.stkSub D hs
        rcases List.mem_cons.mp hb with z | z
        · have := I.lt
          rw [<- z, hDD] at this
          exact Nat.lt_irrefl _ this
        · exact I.nofs (Nat.le_of_eq hDD) z
  have loop : ∀ s0 : Shared, s0 = { s with heap := h1, toks := s.toks + ([] : List (Str × Value)).length } ->
      codeAny (model X.prog X.w) X.A (.compLoop (.ListComp elt [⟨tg, iter, ifs, 0⟩] scope pos) 0 (.ref it) (.ref D) X'.env) (RR (.ref D) C) s0 := by
    rintro s0 rfl
    obtain ⟨m0, w0⟩ := h0
    refine comp_loop (fun n s' => ∃ i ys σ' H' its k, Inv X' pins σ' H' s' /\ tn i s'.heap /\ (∀ b ∈ fp, H' b = none) /\ s'.heap.get? D = some { cls := .type "list", data := .seq (its : List Value).toArray k } /\ H' D = none /\ Vals ys its /\ W i n ys σ' H')
      ?_ m0 ⟨0, [], stComp fr σ, H, [], 0, I1, st1, fun b hb => (hf b hb).1, accD, I.hok.fresh (by rw [hDD]; exact Nat.le_refl _), .nil, w0⟩
    rintro n s1 ⟨i, ys, σ1, H1, its, k, J1, t1, n1, d1, nD1, v1, w1⟩
    have J1' := pinD J1 d1 nD1
    rcases hW i n ys σ1 H1 w1 with ⟨stop, hlen, fi⟩ | ⟨go, hlen, step⟩
    · have a1 := T.done X' pm wm km cm i _ s1 σ1 H1 (fun _ _ => False) J1' (fps n1) t1 stop
      rw [am] at a1
      refine thn a1 fun r s2 ⟨hr, J2⟩ => ?_
      subst hr
      obtain ⟨d2, nD2, _⟩ := J2.pin (D, _) (List.mem_append_right _ (List.mem_append_right _ List.mem_cons_self))
      have u2 : Un (frs X.stack) fp H H1 s.heap s2.heap := by
        have := J2.base
        subst hX'
        exact this
      have hok2 : HOk X.prog X.w (upd H1 D (.lst ys)) s2.heap := by
        have h2 := J2.hok
        rw [pm, wm] at h2
        exact h2.track nD1 ⟨hlen, its, k, v1, d2⟩
      have J3 : Inv X pins σ (upd H1 D (.lst ys)) s2 := by
        refine I.call' (ch := fp) (by have := J2.os; subst hX'; exact this) ⟨fun b o e n hb hx => u2.keep b o e n hb hx, fun b o e n hb hx => u2.slot b o e n hb hx, fun b o e n hx => ?_, fun b o e hx => u2.there b o e hx, fun b xs e => ?_, fun b o u e => ?_, fun b ps e => ?_⟩ hok2 J2.bare fun b hb => ?_
        · have ne : b ≠ D := Nat.ne_of_lt (by rw [<- hDD]; exact Heap.lt_size e)
          rw [upd_ne ne]
          exact u2.free b o e n hx
        · have q := u2.tups b xs e
          rw [upd_ne (ne_of_none q nD1)]
          exact q
        · have q := u2.frzs b o u e
          rw [upd_ne (ne_of_none q nD1)]
          exact q
        · obtain ⟨more, q⟩ := u2.tbls b ps e
          exact ⟨more, by rw [upd_ne (ne_of_none q nD1)]; exact q⟩
        · obtain ⟨_, f1, f2, f3, f4, f5⟩ := hf b hb
          exact ⟨f3, f1, f4, f5⟩
      have nC : (upd H1 D (.lst ys)) C = none := by
        rw [upd_ne (Nat.ne_of_gt hD0)]
        have := J2.free
        rw [lm] at this
        exact this
      refine hRR D C ys H1 s2 J3 ?_ (I.fpOk hle nC) nD1 fi
      obtain ⟨m, hm, _⟩ := J2.loc
      rw [lm] at hm
      exact ⟨m, hm⟩
    · have a1 := T.item X' pm wm km cm i _ s1 σ1 H1 (fun _ _ => False) J1' (fps n1) t1 go
      rw [am] at a1
      refine thn a1 fun r s2 ⟨u, hr, h2⟩ => ?_
      subst hr
      refine thn h2 fun _ s3 ⟨x, H3, J3, r3, y3, t3, n3⟩ => ?_
      have J3' := J3.pinned (fps n3) (T.obj _ _ t3)
      have a3 := hg' _ s3 σ1 H3 x u _ J3' r3 (step x H3 y3)
      rw [pm, wm, am, xm] at a3
      refine thn a3 fun _ s4 ⟨σ4, H4, J4, q4⟩ => ?_
      have a4 := ht' _ s4 σ4 H4 _ J4 q4
      rw [pm, wm, am, xm] at a4
      refine thn a4 fun ok s5 ⟨H5, J5, q5⟩ => ?_
      have keepT : ∀ {σ' : St} {H' : Hp} {s' : Shared}, Inv X' (pins ++ [(D, { cls := .type "list", data := .seq its.toArray k })] ++ pinsAt fp s3.heap) σ' H' s' -> tn (i + 1) s'.heap /\ (∀ b ∈ fp, H' b = none) /\ s'.heap.get? D = some { cls := .type "list", data := .seq its.toArray k } /\ H' D = none /\ Inv X' pins σ' H' s' := fun {σ' H' s'} J0 => by
        refine ⟨T.keep _ _ _ t3 fun b hb o e => (J0.pin (b, o) (List.mem_append_right _ (List.mem_append_right _ (mem_pinsAt hb e)))).1, fun b hb => ?_, ?_, ?_, J0.unpinned.unpinned⟩
        · obtain ⟨o, e, _⟩ := T.obj _ _ t3 b hb
          exact (J0.pin (b, o) (List.mem_append_right _ (List.mem_append_right _ (mem_pinsAt hb e)))).2.1
        · exact (J0.pin (D, _) (List.mem_append_right _ (List.mem_append_left _ (List.mem_append_right _ List.mem_cons_self)))).1
        · exact (J0.pin (D, { cls := .type "list", data := .seq its.toArray k }) (List.mem_append_right _ (List.mem_append_left _ (List.mem_append_right _ List.mem_cons_self)))).2.1
      cases ok with
      | false =>
        obtain ⟨m', hm, w'⟩ := q5
        obtain ⟨e1, e2, e3, e4, e5⟩ := keepT J5
        rw [if_neg Bool.false_ne_true]
        exact ⟨m', hm, i + 1, ys, σ4, H5, its, k, e5, e1, e2, e3, e4, v1, w'⟩
      | true =>
        rw [if_pos rfl]
        have a5 := he' _ s5 σ4 H5 _ J5 q5
        rw [pm, wm, am, xm] at a5
        refine thn a5 fun u6 s6 ⟨y, H6, J6, r6, m', hm, w6⟩ => ?_
        obtain ⟨e1, e2, e3, e4, e5⟩ := keepT J6
        refine append_at (hsz := by show its.toArray.size <= sizeLine; rw [List.size_toArray, <- v1.length]; exact Nat.le_of_lt hlen) e3 fun h7 sb7 d7 => ?_
        have J7 : Inv X' pins σ4 H6 { s6 with heap := h7 } := e5.turned (t' := s6.toks) (it := D) (fun b o hb e => sb7.extBut b o hb e) e4 (by rw [lm]; exact Nat.ne_of_lt hD0) (.inr (by rw [szm, hDD]; exact Nat.le_refl _)) (fun x d e => Nat.ne_of_lt (ageC x d e)) fun p hp => by
          rw [nm] at hp
          exact Nat.ne_of_lt (ageP p hp)
        refine ⟨m', hm, i + 1, ys ++ [y], σ4, H6, its ++ [u6], k + 1, J7, T.keep _ _ _ e1 fun b hb o e => sb7.extBut b o (Nat.ne_of_lt (by rw [<- hDD]; exact hlt b hb)) e, e2, ?_, e4, v1.append (.cons r6 .nil), w6⟩
        rw [d7, List.push_toArray]
  have env1 : ({ newEnv scope C X.env.globals (clOf X.env scope.names []) X.env.qual none .none (some X.env) 0 with scope := relabel scope X.env } : Env) = X'.env := by rw [em]; rfl
  have lp := loop _ rfl
  rw [em] at lp
  exact codeAny_compStart_list lp (T.self _ 0 _ _ _ st1 lp)
def tComp (wi : TI) (fr : List (Option Nat)) (g : TG) (tt : TT) (te : TE) : TE := fun σ H Q => wi σ H fun J H1 =>
  ∃ W, CompW J g tt te (fun ys H' => ∀ p, H' p = none -> Q (.ref p) (upd H' p (.lst ys))) W /\ ∃ m, W 0 m [] (stComp fr σ) H1
theorem pe_comp {wi : TI} (c : CompOk X scope N' fr) (hc : X.calm = true) (hi : PI X tg iter wi) (hg : ∀ fp C s H, PG (cxComp X scope N' fp C s H) tg g) (ht : ∀ fp C s H, PIfs (cxComp X scope N' fp C s H) ifs tt)
    (he : ∀ fp C s H, PE (cxComp X scope N' fp C s H) elt te) (hs : ∀ x, foldedSetIterable iter X.env x = pure x := by intro _; rfl) : PE X (.ListComp elt [⟨tg, iter, ifs, 0⟩] scope pos) (tComp wi fr g tt te) := by
  intro pins s σ H Q I h
  rw [eval_ListComp]
  refine wpAny_comprehension_free (use := none) rfl hs (closure_is (c.has I.ok)) c.kind c.names (thn (hi pins s σ H _ I h) fun v s1 h1 => thn h1 fun itv s2 h2 => ?_)
  obtain ⟨it, fp, tn, J, H2, e, I2, T, st2, f2, W, hW, h0⟩ := h2
  subst e
  refine comp_block c hc I2 T st2 f2 hg ht he hW h0 ?_
  rintro D C ys H' s' J3 ⟨m, hm⟩ ⟨f0, f1, _, f3, f4, f5⟩ nD fi
  exact ⟨m, hm, fun h'' sb => ⟨.ref D, _, J3.turned (t' := s'.toks) (it := C) (fun b o hb e => sb.extBut b o hb e) f0 f1 f3 f4 f5, rfl, fi D nD⟩⟩
def tSetComp (i : Nat) (wi : TI) (fr : List (Option Nat)) (g : TG) (tt : TT) (te : TE) : TS := fun D σ H => wi σ H fun J H1 =>
  ∃ W, CompW J g tt te (fun ys H' => ∀ p, H' p = none -> D.nx (σ.set i (some (.ref p))) (upd H' p (.lst ys))) W /\ ∃ m, W 0 m [] (stComp fr σ) H1
theorem ps_setComp {wi : TI} {i : Nat} {y : Str} {py spos : Pos} (hN : X.N.Nodup) (hi' : X.N[i]? = some y) (hy : Loc X.env.scope y) (c : CompOk X scope N' fr) (hc : X.calm = true) (hi : PI X tg iter wi) (hg : ∀ fp C s H, PG (cxComp X scope N' fp C s H) tg g) (ht : ∀ fp C s H, PIfs (cxComp X scope N' fp C s H) ifs tt)
    (he : ∀ fp C s H, PE (cxComp X scope N' fp C s H) elt te) (hs : ∀ x, foldedSetIterable iter X.env x = pure x := by intro _; rfl)
    (hsw : swapsWith (.ListComp elt [⟨tg, iter, ifs, 0⟩] scope pos) (some (.Name y py)) spos.line X.env = pure true := by rfl) (hf : X.fn y = true \/ X.env.scope.names.lookup y = some .local := by first | exact .inl rfl | exact .inr rfl | assumption) :
    PS X (.Assign [.Name y py] (.ListComp elt [⟨tg, iter, ifs, 0⟩] scope pos) spos) (tSetComp i wi fr g tt te) := by
  intro pins s σ H D I h
  rw [exec_Assign_Name_used _ _ _ _ hsw]
  refine wpAny_bind (wpAny_standAt (wpAny_bind ?_))
  show wpAny _ X.A (do let _ <- comprehension (.ListComp elt [⟨tg, iter, ifs, 0⟩] scope pos) scope X.env _ (newList []) false (eval iter X.env) (some (assign (.Name y py) X.env))) _ _ s
  refine wpAny_bind (thn (wpAny_comprehension_free (use := some (assign (.Name y py) X.env)) (Q := fun _ s' => SP X pins D .next s') rfl hs (closure_is (c.has I.ok)) c.kind c.names
    (thn (hi pins s σ H _ I h) fun v s1 h1 => thn h1 fun itv s2 h2 => ?_)) fun _ s' hq => wpAny_pure (wpAny_pure hq))
  obtain ⟨it, fp, tn, J, H2, e, I2, T, st2, f2, W, hW, h0⟩ := h2
  subst e
  refine comp_block c hc I2 T st2 f2 hg ht he hW h0 ?_
  rintro B C ys H' s' J3 ⟨m, hm⟩ ⟨f0, f1, _, f3, f4, f5⟩ nD fi
  show wpAny _ X.A (assign (.Name y py) X.env (.ref B)) _ _ s'
  refine wpAny_assign_Name (store_ok2 J3 hN hi' hy (show RelV (.ref B) (.ref B) from rfl) (fun s4 J4 ⟨a, sb, ha⟩ => ?_) hf)
  have nCa : C ≠ a := by
    rcases ha with z | z
    · rw [z]; exact f1
    · exact fun q => f4 y a z q.symm
  exact ⟨m, hm.sameBut sb nCa, fun h'' sb2 => ⟨_, _, J4.turned (t' := s4.toks) (it := C) (fun b o hb e => sb2.extBut b o hb e) f0 f1 f3 f4 f5, fi B nD⟩⟩
end
section
variable {X : Cx}
theorem call_isinst : CallR X (.builtin "isinstance") (fun xs H Q => ∃ x c t u b, xs = [x, c] /\ RelV c u /\ TyOf X.K H x t /\ PySem.W.kitOne X.K t u = some b /\ Q (.bl b) H) := by
  intro pins s σ H xs us Q I r h
  obtain ⟨x, c, t, u, b, rfl, rc, ty, e, q⟩ := h
  obtain ⟨u1, u2, rfl, r1, r2⟩ := Vals.two r
  have hu : u2 = u := by
    cases c <;> first
      | exact (show u2 = _ from r2).trans (show u = _ from rc).symm
      | skip
    all_goals (exfalso; obtain ⟨_, rfl⟩ := rc; unfold PySem.W.kitOne PySem.W.kitCls at e; split at e <;> first | (cases ty <;> simp_all) | (simp at e))
  subst hu
  exact isinst_ok I r1 ty e fun tk => ⟨.bl b, H, I.tok tk, rfl, q⟩
inductive SameD (K : PySem.W.Frag) (H : Hp) : Nat -> V -> V -> Prop
  | flat {n : Nat} {x : V} (f : flatV x = true) : SameD K H n x x
  | tup {n : Nat} {a b : Addr} {xs ys : List V} (ha : SqT K H a xs) (hb : SqT K H b ys) (hl : xs.length = ys.length) (h : ∀ (i : Nat) (x y : V), xs[i]? = some x -> ys[i]? = some y -> SameD K H n x y) : SameD K H (n + 1) (.ref a) (.ref b)
  | lst {n : Nat} {a b : Addr} {xs ys : List V} (ha : SqL K H a xs) (hb : SqL K H b ys) (hl : xs.length = ys.length) (h : ∀ (i : Nat) (x y : V), xs[i]? = some x -> ys[i]? = some y -> SameD K H n x y) : SameD K H (n + 1) (.ref a) (.ref b)
theorem eqV_self {x : V} (f : flatV x = true) : eqV x x = true := by
  cases x <;> first | (exact absurd (show false = true from f) Bool.false_ne_true) | rfl | (simp [eqV])
theorem range_all_true (n : Nat) (e : Nat -> Bool) (h : ∀ i, e i = true) : (List.range n).all e = true := by
  rw [List.all_eq_true]; intro i _; exact h i
theorem in1_units {A : Around} : A.in1.units <= A.units + 1 := by
  first
    | exact Nat.le_refl _
    | exact Nat.le_succ _
    | (simp [Around.in1])
theorem SameD.rc {pins : List (Addr × Obj)} {σ : St} {H : Hp} {s : Shared} (I : Inv X pins σ H s) {n : Nat} {x y : V} (h : SameD X.K H n x y) : ∀ (A : Around), A.units + n < cLine -> ∀ (u v : Value), RelV x u -> RelV y v -> SeqAt.EqAt A s u v true := by
  induction h with
  | flat f => intro A hu u v ru rv; have := eqAt_V (A := A) (s := s) ru rv f f; rw [eqV_self f] at this; exact this
  | @tup n a b xs ys ha hb hl _ ih =>
    intro A hu u v ru rv
    cases (show u = Value.ref a from ru)
    cases (show v = Value.ref b from rv)
    by_cases e : a = b
    · subst e; exact SeqAt.EqAt.same _
    · obtain ⟨its, r1, t1, _⟩ := I.tuple ha
      obtain ⟨its2, r2, t2, _⟩ := I.tuple hb
      have hz : its.toArray.size = its2.toArray.size := by simp [<- r1.length, <- r2.length, hl]
      refine SeqAt.EqAt.of_refs e ?_
      have q := SeqAt.RcAt.tuples (e := fun _ => true) (A := A) t1 t2 (by lia) (fun j h1 h2 => ?_)
      · rw [range_all_true _ _ (fun _ => rfl), hz] at q
        simpa using q
      · have l1 : j < xs.length := by have := r1.length; simp at h1; lia
        have l2 : j < ys.length := by lia
        obtain ⟨u1, e1, q1⟩ := r1.get (i := j) (x := xs[j]) (by simp [l1])
        obtain ⟨u2, e2, q2⟩ := r2.get (i := j) (x := ys[j]) (by simp [l2])
        have w1 : its.toArray[j] = u1 := by have := List.getElem?_eq_some_iff.mp e1; simpa using this.2
        have w2 : its2.toArray[j] = u2 := by have := List.getElem?_eq_some_iff.mp e2; simpa using this.2
        rw [w1, w2]
        exact ih j _ _ (by simp [l1]) (by simp [l2]) A.in1 (by have := @in1_units A; lia) _ _ q1 q2
  | @lst n a b xs ys ha hb hl _ ih =>
    intro A hu u v ru rv
    cases (show u = Value.ref a from ru)
    cases (show v = Value.ref b from rv)
    by_cases e : a = b
    · subst e; exact SeqAt.EqAt.same _
    · obtain ⟨its, r1, t1, _⟩ := I.list ha
      obtain ⟨its2, r2, t2, _⟩ := I.list hb
      have hz : its.toArray.size = its2.toArray.size := by simp [<- r1.length, <- r2.length, hl]
      refine SeqAt.EqAt.of_refs e ?_
      have q := SeqAt.RcAt.lists (e := fun _ => true) (A := A) t1.isList t2.isList hz (by lia) (fun j h1 h2 => ?_)
      · rw [range_all_true _ _ (fun _ => rfl)] at q
        exact q
      · have l1 : j < xs.length := by have := r1.length; simp at h1; lia
        have l2 : j < ys.length := by lia
        obtain ⟨u1, e1, q1⟩ := r1.get (i := j) (x := xs[j]) (by simp [l1])
        obtain ⟨u2, e2, q2⟩ := r2.get (i := j) (x := ys[j]) (by simp [l2])
        have w1 : its.toArray[j] = u1 := by have := List.getElem?_eq_some_iff.mp e1; simpa using this.2
        have w2 : its2.toArray[j] = u2 := by have := List.getElem?_eq_some_iff.mp e2; simpa using this.2
        rw [w1, w2]
        exact ih j _ _ (by simp [l1]) (by simp [l2]) A.in1 (by have := @in1_units A; lia) _ _ q1 q2
def rSame (K : PySem.W.Frag) (out : Bool) : R2 := fun x y H Q => ∃ a b xs ys n, x = .ref a /\ y = .ref b /\ ((SqT K H a xs /\ SqT K H b ys) \/ (SqL K H a xs /\ SqL K H b ys)) /\ xs.length = ys.length /\ n <= 64 /\
  (∀ (i : Nat) (x y : V), xs[i]? = some x -> ys[i]? = some y -> SameD K H n x y) /\ Q (.bl out) H
theorem same_items {pins : List (Addr × Obj)} {σ : St} {H : Hp} {s : Shared} (I : Inv X pins σ H s) {A : Around} {n : Nat} {xs ys : List V} {its its2 : List Value} (hu : A.units + n < cLine) (r1 : Vals xs its) (r2 : Vals ys its2) (hl : xs.length = ys.length)
    (h : ∀ (i : Nat) (x y : V), xs[i]? = some x -> ys[i]? = some y -> SameD X.K H n x y) : ∀ j (h1 : j < its.toArray.size) (h2 : j < its2.toArray.size), SeqAt.EqAt A s its.toArray[j] its2.toArray[j] true := by
  intro j h1 h2
  have l1 : j < xs.length := by have := r1.length; simp at h1; lia
  have l2 : j < ys.length := by lia
  obtain ⟨u1, e1, q1⟩ := r1.get (i := j) (x := xs[j]) (by simp [l1])
  obtain ⟨u2, e2, q2⟩ := r2.get (i := j) (x := ys[j]) (by simp [l2])
  have w1 : its.toArray[j] = u1 := by have := List.getElem?_eq_some_iff.mp e1; simpa using this.2
  have w2 : its2.toArray[j] = u2 := by have := List.getElem?_eq_some_iff.mp e2; simpa using this.2
  rw [w1, w2]
  exact (h j _ _ (by simp [l1]) (by simp [l2])).rc I A hu _ _ q1 q2
theorem op_neS (hu : X.A.units + 66 < cLine) : OpR X (compareOp .NotEq) (rSame X.K false) := by
  intro pins s σ H x y v u Q I rx ry h
  obtain ⟨a, b, xs, ys, n, rfl, rfl, hk, hl, hn, hs, q⟩ := h
  cases (show v = Value.ref a from rx)
  cases (show u = Value.ref b from ry)
  have hu1 : X.A.in1.units + n < cLine := by have := @in1_units X.A; lia
  rcases hk with ⟨ha, hb⟩ | ⟨ha, hb⟩
  · obtain ⟨its, r1, t1, _⟩ := I.tuple ha
    obtain ⟨its2, r2, t2, _⟩ := I.tuple hb
    have hz : its.toArray.size = its2.toArray.size := by simp [<- r1.length, <- r2.length, hl]
    refine EqBoolInt.of_rcne (SeqAt.RcNeAt.tuples (e := fun _ => true) t1 t2 (by lia) (same_items I hu1 r1 r2 hl hs)) ?_
    rw [range_all_true _ _ (fun _ => rfl), hz]
    exact ⟨.bl false, H, I, by simp [RelV], q⟩
  · obtain ⟨its, r1, t1, _⟩ := I.list ha
    obtain ⟨its2, r2, t2, _⟩ := I.list hb
    have hz : its.toArray.size = its2.toArray.size := by simp [<- r1.length, <- r2.length, hl]
    refine EqBoolInt.of_rcne (SeqAt.RcNeAt.lists (e := fun _ => true) t1.isList t2.isList hz (by lia) (same_items I hu1 r1 r2 hl hs)) ?_
    rw [range_all_true _ _ (fun _ => rfl)]
    exact ⟨.bl false, H, I, rfl, q⟩
def rNil (K : PySem.W.Frag) (neg : Bool) : R2 := fun x y H Q => ∃ a b xs, x = .ref a /\ y = .ref b /\ SqL K H a xs /\ SqL K H b [] /\ Q (.bl (neg ^^ decide (xs = []))) H
theorem op_eqNil (hu : X.A.units + 66 < cLine) : OpR X (compareOp .Eq) (rNil X.K false) := by
  intro pins s σ H x y v u Q I rx ry h
  obtain ⟨a, b, xs, rfl, rfl, ha, hb, q⟩ := h
  cases (show v = Value.ref a from rx)
  cases (show u = Value.ref b from ry)
  obtain ⟨its, r1, t1, _⟩ := I.list ha
  obtain ⟨its2, r2, t2, _⟩ := I.list hb
  have z2 : its2 = [] := Vals.zero r2
  subst z2
  cases xs with
  | nil =>
    have z1 : its = [] := Vals.zero r1
    subst z1
    exact SeqAt.eq_listAt (e := fun _ => true) t1.isList t2.isList rfl (by lia) (fun j h1 _ => absurd h1 (by simp)) ⟨.bl true, H, I, by simp [RelV], by simpa using q⟩
  | cons x xs =>
    have hl := r1.length
    exact SeqAt.eq_list_lengthsAt t1.isList t2.isList (by simp [<- hl]) (by lia) ⟨.bl false, H, I, rfl, by simpa using q⟩
theorem op_neNil (hu : X.A.units + 66 < cLine) : OpR X (compareOp .NotEq) (rNil X.K true) := by
  intro pins s σ H x y v u Q I rx ry h
  obtain ⟨a, b, xs, rfl, rfl, ha, hb, q⟩ := h
  cases (show v = Value.ref a from rx)
  cases (show u = Value.ref b from ry)
  obtain ⟨its, r1, t1, _⟩ := I.list ha
  obtain ⟨its2, r2, t2, _⟩ := I.list hb
  have z2 : its2 = [] := Vals.zero r2
  subst z2
  cases xs with
  | nil =>
    have z1 : its = [] := Vals.zero r1
    subst z1
    exact EqBoolInt.of_rcne (SeqAt.RcNeAt.lists (e := fun _ => true) t1.isList t2.isList rfl (by lia) (fun j h1 _ => absurd h1 (by simp))) ⟨.bl false, H, I, by simp [RelV], by simpa using q⟩
  | cons x xs =>
    have hl := r1.length
    exact EqBoolInt.of_rcne (SeqAt.RcNeAt.lists_lengths t1.isList t2.isList (by simp [<- hl]) (by lia)) ⟨.bl true, H, I, rfl, by simpa using q⟩
theorem kept_iter {h h' : Heap} {o : Obj} (hk : ∀ b u, b ∉ [h.objs.size] -> (h.push o).get? b = some u -> h'.get? b = some u) : ∀ b u, h.get? b = some u -> h'.get? b = some u := fun b u e =>
  hk b u (fun hm => absurd (Heap.lt_size e) (by rw [List.mem_singleton.mp hm]; exact Nat.lt_irrefl _)) (Heap.get?_push_of_some _ e)
theorem bools_at {bs : List Bool} {its : List Value} (r : Vals (bs.map V.bl) its) {i : Nat} {v : Value} (e : its.toArray[i]? = some v) : v = .bool (bs.getD i false) := by
  have e' : its[i]? = some v := by simpa using e
  have hl : i < its.length := (List.getElem?_eq_some_iff.mp e').1
  have hb : i < bs.length := by have := r.length; rw [List.length_map] at this; lia
  obtain ⟨u, e1, q⟩ := r.get (i := i) (x := V.bl bs[i]) (by simp [hb])
  rw [e1] at e'
  cases e'
  have e3 : v = Value.bool bs[i] := q
  rw [e3]
  simp [List.getD, hb]
theorem range_all_get (bs : List Bool) : (List.range bs.length).all (fun i => bs.getD i false) = bs.all id := by
  rw [Bool.eq_iff_iff, List.all_eq_true, List.all_eq_true]
  constructor
  · intro h x hx
    obtain ⟨i, hi, e⟩ := List.mem_iff_getElem.mp hx
    have := h i (List.mem_range.mpr hi)
    simp [List.getD, hi, e] at this
    exact this
  · intro h i hi
    have hi' := List.mem_range.mp hi
    have := h bs[i] (List.getElem_mem hi')
    simpa [List.getD, hi'] using this
theorem call_all (hc : X.calm = true) : CallR X (.builtin "all") (fun xs H Q => ∃ (p : Addr) (bs : List Bool), xs = [.ref p] /\ SqL X.K H p (bs.map V.bl) /\ Q (.bl (bs.all id)) H) := by
  intro pins s σ H xs us Q I r h
  obtain ⟨p, bs, rfl, hp, q⟩ := h
  obtain ⟨u, rfl, ru⟩ := Vals.one r
  cases (show u = Value.ref p from ru)
  obtain ⟨its, r1, t1, _⟩ := I.list hp
  have hh : X.A.in1.handled = none := I.ok.hd hc
  have hlt : p < s.heap.objs.size := by obtain ⟨_, e, _⟩ := t1.isList; exact Heap.lt_size e
  refine call_all_walk (wpAny_pyIter_list t1.isList ⟨_, _, _, _, _, _, fun i => bs.getD i false, rfl, Walks.list hh _ p (Nat.ne_of_lt hlt) its.toArray, ⟨⟨_, Heap.get?_push_size _ rfl, rfl, rfl⟩, t1.isList.push _⟩, ?_, ?_⟩)
  · intro i v s' Q' E' e hq
    rw [bools_at r1 e]
    exact wpAny_truthy_bool hq
  · intro h' tk hk
    have hl : its.toArray.size = bs.length := by have := r1.length; simp at this ⊢; lia
    rw [hl, range_all_get]
    exact ⟨.bl _, H, I.kept (kept_iter hk), rfl, q⟩
end
section
variable {X : Cx} {pins : List (Addr × Obj)} {σ : St} {H : Hp} {s : Shared}
theorem Inv.turnM {ch : List Addr} {t' : Nat} {h' : Heap} (I : Inv X pins σ H s) (hf : ∀ b ∈ ch, FpOk X pins H b) (k : ∀ b u, b ∉ ch -> s.heap.get? b = some u -> h'.get? b = some u) : Inv X pins σ H { s with heap := h', toks := t' } := by
  have nch : ∀ b u, H b = some u -> b ∉ ch := fun b u e z => by have := (hf b z).1; rw [this] at e; cases e
  refine I.step (g' := s.gens) (d' := s.drawn) (ch := ch) (fun b hb => ⟨(hf b hb).2.2.2.1, (hf b hb).2.1, (hf b hb).2.2.2.2.1, (hf b hb).2.2.2.2.2⟩) (fun b o _ _ hc e _ => k b o hc e) (fun b o _ _ hc e _ => ⟨o.slots, k b o hc e⟩) (fun _ _ _ _ n => n)
    (fun b o hc e => ⟨o, k b o hc e⟩) (fun _ _ e => e) (fun _ _ _ e => e) (fun b ps e => ⟨#[], by rw [e]; simp⟩) (fun m hm => ?_) (fun b u e => ?_) I.bare
  · obtain ⟨o, es, ep, ho, r⟩ := hm
    exact ⟨o, es, ep, k _ o (fun z => (hf _ z).2.1 rfl) ho, r⟩
  · refine (I.hok b u e).stay (fun c v hc q => k c v ?_ q) (fun _ q => q) fun _ _ q => q
    rcases hc with z | z
    · rw [z]; exact nch b u e
    · exact nch c _ z
theorem Inv.turnNew {ch : List Addr} {T : Addr} {o : HO} {t' : Nat} {h' : Heap} (I : Inv X pins σ H s) (hf : ∀ b ∈ ch, FpOk X pins H b) (k : ∀ b u, b ∉ ch -> s.heap.get? b = some u -> h'.get? b = some u) (hT : s.heap.objs.size <= T)
    (new : ObjOk X.prog X.w (upd H T o) h' T o) : Inv X pins σ (upd H T o) { s with heap := h', toks := t' } := by
  have nch : ∀ b u, H b = some u -> b ∉ ch := fun b u e z => by have := (hf b z).1; rw [this] at e; cases e
  have nT : H T = none := I.hok.fresh hT
  have neT : ∀ b u, s.heap.get? b = some u -> b ≠ T := fun b u e => Nat.ne_of_lt (Nat.lt_of_lt_of_le (Heap.lt_size e) hT)
  refine I.step (g' := s.gens) (d' := s.drawn) (ch := ch) (fun b hb => ⟨(hf b hb).2.2.2.1, (hf b hb).2.1, (hf b hb).2.2.2.2.1, (hf b hb).2.2.2.2.2⟩) (fun b o _ _ hc e _ => k b o hc e) (fun b o _ _ hc e _ => ⟨o.slots, k b o hc e⟩) (fun b u _ e n => by rw [upd_ne (neT b u e)]; exact n)
    (fun b o hc e => ⟨o, k b o hc e⟩) (fun b xs e => by rw [upd_ne (ne_of_none e nT)]; exact e) (fun b o u e => by rw [upd_ne (ne_of_none e nT)]; exact e) (fun b ps e => ⟨#[], by rw [upd_ne (ne_of_none e nT), e]; simp⟩) (fun m hm => ?_) (fun b u e => ?_) I.bare
  · obtain ⟨o, es, ep, ho, r⟩ := hm
    exact ⟨o, es, ep, k _ o (fun z => (hf _ z).2.1 rfl) ho, r⟩
  · by_cases hb : b = T
    · subst hb
      rw [upd_same] at e
      cases e
      exact new
    · rw [upd_ne hb] at e
      refine (I.hok b u e).stay (fun c v hc q => k c v ?_ q) (fun c r => by rw [upd_ne (ne_of_none r nT)]; exact r) fun c xs r => by rw [upd_ne (ne_of_none r nT)]; exact r
      rcases hc with z | z
      · rw [z]; exact nch b u e
      · exact nch c _ z
end
inductive Kd | l | t
def ItAt (k : Kd) (h : Heap) (it a : Addr) (i : Nat) : Prop := match k with | .l => h.IsListIter it a i | .t => h.IsTupleIter it a i
def SqK (k : Kd) (K : PySem.W.Frag) (H : Hp) (a : Addr) (xs : List V) : Prop := match k with | .l => SqL K H a xs | .t => SqT K H a xs
def SeqIs (k : Kd) (h : Heap) (a : Addr) (its : List Value) : Prop := match k with | .l => h.IsList a its.toArray | .t => h.IsTuple a its.toArray
theorem Inv.seq {X : Cx} {pins : List (Addr × Obj)} {σ : St} {H : Hp} {s : Shared} (I : Inv X pins σ H s) {k : Kd} {a : Addr} {xs : List V} (h : SqK k X.K H a xs) : ∃ its : List Value, Vals xs its /\ SeqIs k s.heap a its /\ xs.length <= sizeLine := by
  cases k with
  | l => obtain ⟨its, r, t, z⟩ := I.list h; exact ⟨its, r, t.isList, z⟩
  | t => obtain ⟨its, r, t, z⟩ := I.tuple h; exact ⟨its, r, t, z⟩
theorem ItAt.kept {k : Kd} {h h' : Heap} {it a : Addr} {i : Nat} (q : ItAt k h it a i) (e : ∀ o, h.get? it = some o -> h'.get? it = some o) : ItAt k h' it a i := by
  cases k with
  | l => obtain ⟨o, ho, r⟩ := (show h.IsListIter it a i from q); exact ⟨o, e _ ho, r⟩
  | t => obtain ⟨o, ho, r⟩ := (show h.IsTupleIter it a i from q); exact ⟨o, e _ ho, r⟩
theorem ItAt.obj {k : Kd} {h : Heap} {it a : Addr} {i : Nat} (q : ItAt k h it a i) : ∃ o, h.get? it = some o /\ ∀ v, o.data ≠ .cell v := by
  cases k with
  | l => obtain ⟨o, ho, _, d⟩ := (show h.IsListIter it a i from q); exact ⟨o, ho, fun v z => by rw [d] at z; cases z⟩
  | t => obtain ⟨o, ho, _, d⟩ := (show h.IsTupleIter it a i from q); exact ⟨o, ho, fun v z => by rw [d] at z; cases z⟩
section
variable {prog : Program} {w : World} {A : Around} {E : Value -> Shared -> Prop} {s : Shared}
theorem next_tup {it t : Addr} {i : Nat} {its : List Value} {x : Value} {Q : Value -> Shared -> Prop} (hi : s.heap.IsTupleIter it t i) (ht : s.heap.IsTuple t its.toArray) (hx : its[i]? = some x)
    (q : ∀ h', h'.IsTupleIter it t (i + 1) -> Heap.SameBut it s.heap h' -> Q x { s with heap := h' }) : wpAny (model prog w) A (Builtin.SmallTypes.nextOf (.ref it)) Q E s := by
  obtain ⟨oi, gi, ci, di⟩ := id hi
  obtain ⟨ot, gt, _, nt, dt⟩ := ht
  have hx' : its.toArray[i]? = some x := by simpa using hx
  unfold Builtin.SmallTypes.nextOf
  refine wpAny_bind (wpAny_callSpecial?_slot (name := Str.ofString "__next__") hi.typeIs F.slot_tuple_iterator_next (wpAny_call_entry F.slot_tuple_iterator_next hi.typeIs F.entry_tuple_iterator_next ?_ (F.args_tuple_iterator_next_1 _)))
  show wpAny _ _ (field (Value.ref it) 0 >>= _) _ _ s
  refine wpAny_bind (wpAny_field gi di (x := Value.ref t) rfl ?_)
  rw [if_neg (show ¬ ((Value.ref t == Value.none) = true) by intro z; cases z)]
  refine wpAny_bind (wpAny_field gi di (x := Value.int i 0) rfl ?_)
  refine wpAny_bind (wpAny_seqItems gt dt ?_)
  simp only [Int.toNat_natCast, hx']
  refine wpAny_bind (wpAny_setField gi di (by simp) (wpAny_pure ⟨x, rfl, wpAny_pure (q _ ?_ (Heap.SameBut.update ..))⟩))
  refine ⟨_, Heap.get?_update_self _ gi (Obj.isFreed_of_fields (Obj.data_mapFields di _)), (Obj.cls_mapFields ..).trans ci, ?_⟩
  rw [Obj.data_mapFields di]
  simp [rawInt]
theorem end_tup {it t : Addr} {i : Nat} {its : List Value} {Q : Value -> Shared -> Prop} (hh : A.handled = none) (hi : s.heap.IsTupleIter it t i) (ht : s.heap.IsTuple t its.toArray) (hx : its.length <= i)
    (q : ∀ h' e, Heap.ExtBut it s.heap h' -> (∃ o, h'.get? e = some o /\ o.cls = .type "StopIteration") -> E (.ref e) { s with heap := h' }) : wpAny (model prog w) A (Builtin.SmallTypes.nextOf (.ref it)) Q E s := by
  obtain ⟨oi, gi, ci, di⟩ := id hi
  obtain ⟨ot, gt, _, nt, dt⟩ := ht
  have hx' : its.toArray[i]? = none := by simpa using hx
  unfold Builtin.SmallTypes.nextOf
  refine wpAny_bind (wpAny_callSpecial?_slot (name := Str.ofString "__next__") hi.typeIs F.slot_tuple_iterator_next (wpAny_call_entry F.slot_tuple_iterator_next hi.typeIs F.entry_tuple_iterator_next ?_ (F.args_tuple_iterator_next_1 _)))
  show wpAny _ _ (field (Value.ref it) 0 >>= _) _ _ s
  refine wpAny_bind (wpAny_field gi di (x := Value.ref t) rfl ?_)
  rw [if_neg (show ¬ ((Value.ref t == Value.none) = true) by intro z; cases z)]
  refine wpAny_bind (wpAny_field gi di (x := Value.int i 0) rfl ?_)
  refine wpAny_bind (wpAny_seqItems gt dt ?_)
  simp only [Int.toNat_natCast, hx']
  refine wpAny_bind (wpAny_rule (wpAny_bind (wpAny_setField gi di (by simp) (wpAny_bind ?_))))
  simp only [newExc, newTuple]
  refine wpAny_bind (wpAny_newObj_type (wpAny_bind (m := firstArgMember _ _) (wpAny_of_eq (a := Value.none) ?_ (wpAny_newObj_type ?_ (by size_fits)))) (by size_fits))
  · first | rfl | (simp only [firstArgMember]; rfl)
  simp only [raiseNew]
  refine wpAny_bind (wpAny_handled ?_)
  first | rw [show A.in1.handled = none from hh] | rw [hh]
  exact wpAny_bind (wpAny_pure (wpAny_throw (q _ _ (((Heap.SameBut.update ..).extBut.push _).push _) ⟨_, Heap.get?_push_size _ rfl, rfl⟩)))
theorem next_seq {k : Kd} {it a : Addr} {i : Nat} {its : List Value} {x : Value} {Q : Value -> Shared -> Prop} (hi : ItAt k s.heap it a i) (hs : SeqIs k s.heap a its) (hx : its[i]? = some x)
    (q : ∀ h', ItAt k h' it a (i + 1) -> Heap.SameBut it s.heap h' -> Q x { s with heap := h' }) : wpAny (model prog w) A (Builtin.SmallTypes.nextOf (.ref it)) Q E s := by
  cases k with
  | l => exact wpAny_nextOf_list_item hi hs (by simpa using hx) q
  | t => exact next_tup hi hs hx q
theorem end_seq {k : Kd} {it a : Addr} {i : Nat} {its : List Value} {Q : Value -> Shared -> Prop} (hh : A.handled = none) (hi : ItAt k s.heap it a i) (hs : SeqIs k s.heap a its) (hx : its.length <= i)
    (q : ∀ h' e, Heap.ExtBut it s.heap h' -> (∃ o, h'.get? e = some o /\ o.cls = .type "StopIteration") -> E (.ref e) { s with heap := h' }) : wpAny (model prog w) A (Builtin.SmallTypes.nextOf (.ref it)) Q E s := by
  cases k with
  | l => exact wpAny_nextOf_list_end hh hi hs (by simpa using hx) q
  | t => exact end_tup hh hi hs hx q
end
open AutoSeq1 (wpAny_loadPart')
section
variable {prog : Program} {w : World} {A : Around} {E : Value -> Shared -> Prop} {s : Shared}
theorem enum_step {k : Kd} {e it a : Addr} {i : Nat} {its : List Value} {x old : Value} {Q : Value -> Shared -> Prop} (he : IsEnum s.heap e it i old) (hi : ItAt k s.heap it a i) (hs : SeqIs k s.heap a its) (hx : its[i]? = some x) (ne : e ≠ it)
    (q : ∀ h', IsEnumOut h' e it ((i : Int) + 1) x s.heap.objs.size -> ItAt k h' it a (i + 1) -> h'.get? s.heap.objs.size = some { cls := .type "tuple", data := .seq #[.int i s.toks, x] } ->
      (∀ b o, b ≠ e -> b ≠ it -> s.heap.get? b = some o -> h'.get? b = some o) -> Q (.ref s.heap.objs.size) { s with heap := h', toks := s.toks + 1 }) :
    wpAny (model prog w) A (Builtin.«enumerate.__next__» ⟨[.ref e], []⟩) (fun fin s' => ∃ v, fin = .done (.ret v) /\ Q v s') E s := by
  obtain ⟨hp, g, d, tk, os⟩ := s
  show wpAny _ _ (field (Value.ref e) 2 >>= _) _ _ _
  refine wpAny_bind (wpAny_field he rfl (x := Value.ref it) rfl (wpAny_bind (next_seq hi hs hx fun g1 i1 b1 => ?_)))
  replace b1 : Heap.SameBut it hp g1 := b1
  have e1 : IsEnum g1 e it i old := (b1.2 e ne).trans he
  refine wpAny_bind (wpAny_field (s := ⟨g1, g, d, tk, os⟩) e1 rfl (x := rawInt i) rfl (wpAny_bind (wpAny_field (s := ⟨g1, g, d, tk, os⟩) e1 rfl (x := Value.none) rfl ?_)))
  refine wpAny_bind (wpAny_mkInt (wpAny_bind (wpAny_setField_rec (s := ⟨g1, g, d, tk + 1, os⟩) e1 (by simp) fun g2 e2 b2 => ?_)))
  replace b2 : Heap.SameBut e g1 g2 := b2
  replace e2 : IsEnum g2 e it ((i : Int) + 1) old := e2
  refine wpAny_bind (wpAny_setField_rec (s := ⟨g2, g, d, tk + 1, os⟩) e2 (by simp) fun g3 e3 b3 => ?_)
  replace b3 : Heap.SameBut e g2 g3 := b3
  replace e3 : IsEnum g3 e it ((i : Int) + 1) old := e3
  refine wpAny_bind (wpAny_newTuple ?_)
  have hz : g3.objs.size = hp.objs.size := by rw [b3.1, b2.1, b1.1]
  have el : e < hp.objs.size := Heap.lt_size he
  obtain ⟨oi, gi, _⟩ := hi.obj
  have il : it < hp.objs.size := Heap.lt_size gi
  have e4 : IsEnum (g3.push { cls := .type "tuple", data := .seq #[.int i tk, x] }) e it ((i : Int) + 1) old := Heap.get?_push_of_some _ e3
  have t4 : (g3.push { cls := .type "tuple", data := .seq #[.int i tk, x] }).get? hp.objs.size = some { cls := .type "tuple", data := .seq #[.int i tk, x] } := by rw [<- hz]; exact Heap.get?_push_size _ rfl
  have k4 : ∀ b o, b ≠ e -> b ≠ it -> hp.get? b = some o -> (g3.push { cls := .type "tuple", data := .seq #[.int i tk, x] }).get? b = some o := fun b o h1 h2 h3 =>
    Heap.get?_push_of_some _ (b3.extBut b o h1 (b2.extBut b o h1 (b1.extBut b o h2 h3)))
  have i4 : ItAt k (g3.push { cls := .type "tuple", data := .seq #[.int i tk, x] }) it a (i + 1) := i1.kept fun o h => Heap.get?_push_of_some _ (b3.extBut it o ne.symm (b2.extBut it o ne.symm h))
  show wpAny _ _ (Builtin.SmallTypes.ownedTupleIsFree (Value.ref e) >>= _) _ _ ⟨g3.push { cls := .type "tuple", data := .seq #[.int i tk, x] }, g, d, tk + 1, os⟩
  rw [hz]
  generalize g3.push { cls := .type "tuple", data := .seq #[.int i tk, x] } = g4 at e4 t4 k4 i4
  refine wpAny_bind ?_
  unfold Builtin.SmallTypes.ownedTupleIsFree
  refine wpAny_bind (wpAny_field e4 rfl (x := Value.none) rfl (wpAny_pure ?_))
  simp only [if_true]
  refine wpAny_bind (wpAny_rule (wpAny_bind (wpAny_field e4 rfl (x := old) rfl (wpAny_bind (wpAny_setField_rec e4 (by simp) fun g5 e5 b5 => ?_)))))
  replace b5 : Heap.SameBut e g4 g5 := b5
  replace e5 : IsEnum g5 e it ((i : Int) + 1) x := e5
  refine wpAny_bind ?_
  unfold Builtin.SmallTypes.ownedTupleHandOut
  refine wpAny_bind (wpAny_setField_rec e5 (by simp) fun g6 e6 b6 => ?_)
  replace b6 : Heap.SameBut e g5 g6 := b6
  replace e6 : IsEnumOut g6 e it ((i : Int) + 1) x hp.objs.size := e6
  refine wpAny_setField_rec e6 (by simp) fun g7 e7 b7 => ?_
  replace b7 : Heap.SameBut e g6 g7 := b7
  replace e7 : IsEnumOut g7 e it ((i : Int) + 1) x hp.objs.size := e7
  have up : ∀ b o, b ≠ e -> g4.get? b = some o -> g7.get? b = some o := fun b o h1 h2 => b7.extBut b o h1 (b6.extBut b o h1 (b5.extBut b o h1 h2))
  exact wpAny_bind (wpAny_letGo (wpAny_pure ⟨_, rfl, q g7 e7 (i4.kept fun o h => up it o ne.symm h) (up _ _ (Nat.ne_of_gt el) t4) fun b o h1 h2 h3 => up b o h1 (k4 b o h1 h2 h3)⟩))
theorem enum_item {k : Kd} {e it a : Addr} {i : Nat} {its : List Value} {x old : Value} {Q : Option Value -> Shared -> Prop} (he : IsEnum s.heap e it i old) (hi : ItAt k s.heap it a i) (hs : SeqIs k s.heap a its) (hx : its[i]? = some x) (ne : e ≠ it)
    (q : ∀ h', IsEnumOut h' e it ((i : Int) + 1) x s.heap.objs.size -> ItAt k h' it a (i + 1) -> h'.get? s.heap.objs.size = some { cls := .type "tuple", data := .seq #[.int i s.toks, x] } ->
      (∀ b o, b ≠ e -> b ≠ it -> s.heap.get? b = some o -> h'.get? b = some o) -> Q (some (.ref s.heap.objs.size)) { s with heap := h', toks := s.toks + 1 }) :
    wpAny (model prog w) A (pyNext (.ref e)) Q E s := by
  have ty : s.TypeIs (.ref e) "enumerate" := ⟨_, he, rfl⟩
  unfold pyNext
  exact wpAny_bind (wpAny_attempt (wpAny_callSpecial?_slot (name := Str.ofString "__next__") ty F.slot_enumerate_next (wpAny_call_entry F.slot_enumerate_next ty F.entry_enumerate_next
      (enum_step he hi hs hx ne fun h' a b c d => wpAny_pure (q h' a b c d)) (F.args_enumerate_next_1 _))))
theorem enum_done {k : Kd} {e it a : Addr} {i : Nat} {its : List Value} {old : Value} {Q : Option Value -> Shared -> Prop} (hh : A.handled = none) (he : IsEnum s.heap e it i old) (hi : ItAt k s.heap it a i) (hs : SeqIs k s.heap a its) (hx : its.length <= i)
    (q : ∀ h', Heap.ExtBut it s.heap h' -> Q none { s with heap := h' }) : wpAny (model prog w) A (pyNext (.ref e)) Q E s := by
  have ty : s.TypeIs (.ref e) "enumerate" := ⟨_, he, rfl⟩
  unfold pyNext
  refine wpAny_bind (wpAny_attempt (wpAny_callSpecial?_slot (name := Str.ofString "__next__") ty F.slot_enumerate_next (wpAny_call_entry F.slot_enumerate_next ty F.entry_enumerate_next ?_ (F.args_enumerate_next_1 _))))
  show wpAny _ _ (field (Value.ref e) 2 >>= _) _ _ _
  refine wpAny_bind (wpAny_field he rfl (x := Value.ref it) rfl (wpAny_bind (end_seq hh hi hs hx fun h' z k1 k2 => ?_)))
  obtain ⟨o, ho, hc⟩ := k2
  exact wpAny_bind (wpAny_isInstance (T := "StopIteration") (b := true) ⟨o, ho, hc⟩ isSubtype_stop (wpAny_pure (q _ k1)))
theorem enum_new_tup (t : Addr) (items : Array Value) (n : Nat) (dct : Option Addr) (sl : Array (Option Value)) :
    Meets (Builtin.«enumerate.__new__» ⟨[.type "enumerate", .ref t], []⟩) (fun _ R s => s.heap.get? t = some { cls := .type "tuple", dict := dct, data := .seq items n, slots := sl } /\
      R (.ok (.ret (.ref (s.heap.push { cls := .type "tuple_iterator", data := .fields #[.ref t, .int 0 0] }).objs.size)))
        { s with heap := (s.heap.push { cls := .type "tuple_iterator", data := .fields #[.ref t, .int 0 0] }).push { cls := .type "enumerate", data := .fields #[.none, .bool false, .ref s.heap.objs.size, rawInt 0, .none, .none] } }) :=
  .of_wp fun prog w A R s h => by
    obtain ⟨hp, g, d, tk, os⟩ := s
    obtain ⟨ht, h⟩ := h
    have hsub := sub_enumerate
    have hT : Heap.IsTuple (Shared.heap ⟨hp, g, d, tk, os⟩) t items := ⟨_, ht, rfl, n, rfl⟩
    wp_walk using wpAny_loadPart' ht
    refine wpAny_stack_any fun st => wpAny_pure ?_
    split
    · rename_i c _ _ _ _ _
      cases (c == Value.type "enumerate") <;>
      · wp_walk using wpAny_loadPart' ht, wpAny_pyIter_tuple hT
        exact ⟨_, rfl, h⟩
    · wp_walk using wpAny_loadPart' ht, wpAny_pyIter_tuple hT
      exact ⟨_, rfl, h⟩
theorem call_enum {k : Kd} {a : Addr} {its : List Value} {Q : Value -> Shared -> Prop} (hs : SeqIs k s.heap a its)
    (q : ∀ h', IsEnum h' (s.heap.objs.size + 1) s.heap.objs.size 0 .none -> ItAt k h' s.heap.objs.size a 0 -> (∀ b o, s.heap.get? b = some o -> h'.get? b = some o) -> Q (.ref (s.heap.objs.size + 1)) { s with heap := h' }) :
    wpAny (model prog w) A (call (.type "enumerate") [.ref a]) Q E s := by
  cases k with
  | l => exact call_enumerate_list hs fun h' a b _ d => q h' a b d
  | t =>
    obtain ⟨⟨c, dct, dt, sl⟩, ht, hc, n, hd⟩ := (show s.heap.IsTuple a its.toArray from hs)
    replace hc : c = .type "tuple" := hc
    replace hd : dt = .seq its.toArray n := hd
    subst hc hd
    refine callType_new F.called_enumerate (by decide) (F.typeCall_enumerate_1 _) (F.newCall_enumerate_1 _) (fun obj => F.args_object_init_2 obj _) F.entry_enumerate_new (enum_new_tup a its.toArray n dct sl) ⟨ht, ?_⟩
    have z : (s.heap.push { cls := .type "tuple_iterator", data := .fields #[.ref a, .int 0 0] }).objs.size = s.heap.objs.size + 1 := Heap.size_push ..
    show _ /\ _
    have e1 := Heap.get?_push_size (s.heap.push { cls := .type "tuple_iterator", data := .fields #[.ref a, .int 0 0] }) (o := { cls := .type "enumerate", data := .fields #[.none, .bool false, .ref s.heap.objs.size, rawInt 0, .none, .none] }) rfl
    rw [z] at e1 ⊢
    exact ⟨⟨_, e1, rfl⟩, q _ e1 ⟨_, Heap.get?_push_of_some _ (Heap.get?_push_size _ rfl), rfl, rfl⟩ fun b o x => Heap.get?_push_of_some _ (Heap.get?_push_of_some _ x)⟩
end
def ItE (k : Kd) (K : PySem.W.Frag) (a : Addr) : It :=
  ⟨fun i H => ∃ xs x, SqK k K H a xs /\ xs[i]? = some x, fun i H x H' => ∃ p y, H p = none /\ x = .ref p /\ (∀ xs, SqK k K H a xs -> xs[i]? = some y) /\ H' = upd H p (.tup [.int i, y]), fun i H => ∃ xs, SqK k K H a xs /\ xs.length <= i⟩
theorem Inv.seq_inj {X : Cx} {pins : List (Addr × Obj)} {σ : St} {H : Hp} {s : Shared} (I : Inv X pins σ H s) {k : Kd} {a : Addr} {xs ys : List V} (h : SqK k X.K H a xs) (h' : SqK k X.K H a ys) : xs = ys := by
  cases k with
  | l => exact I.list_inj h h'
  | t => exact I.tuple_inj h h'
theorem turn_enum {P : Program} {w : World} {K : PySem.W.Frag} {elts : List Expr} {x1 : Nat} {tpos : Pos} (k : Kd) (a e it : Addr) (ne : e ≠ it) : Turn P w K (.Tuple elts x1 tpos) (ItE k K a) [e, it] e (fun i h => (∃ old, IsEnum h e it i old) /\ ItAt k h it a i) where
  mem := by simp
  obj := fun i h st b hb => by
    obtain ⟨⟨old, q⟩, r⟩ := st
    rcases List.mem_cons.mp hb with rfl | hb
    · exact ⟨_, q, fun v z => by cases z⟩
    · rw [List.mem_singleton.mp hb]; exact r.obj
  keep := fun i h h' st kk => ⟨let ⟨old, q⟩ := st.1; ⟨old, kk e (by simp) _ q⟩, st.2.kept fun o x => kk it (by simp) o x⟩
  item := by
    intro X hP hw hK hc i pins s σ H E I hf st hg
    subst hP hw hK
    obtain ⟨⟨old, he⟩, hi⟩ := st
    obtain ⟨xs, x, hq, hx⟩ := hg
    obtain ⟨its, r, hs, hz⟩ := I.seq hq
    obtain ⟨u, e1, ru⟩ := r.get hx
    refine enum_item he hi hs e1 ne fun h' a1 a2 a3 a4 => ⟨_, rfl, ?_⟩
    refine wpAny_letOwnedTupleGo_enum (s := { s with heap := h', toks := s.toks + 1 }) a1 fun h2 b1 b2 => ?_
    replace b2 : Heap.SameBut e h' h2 := b2
    have el : e < s.heap.objs.size := Heap.lt_size he
    have kk : ∀ b o, b ∉ [e, it] -> s.heap.get? b = some o -> h2.get? b = some o := fun b o hb q => by
      simp at hb
      exact b2.extBut b o hb.1 (a4 b o hb.1 hb.2 q)
    have tt : h2.get? s.heap.objs.size = some { cls := .type "tuple", data := .seq #[.int i s.toks, u] } := b2.extBut _ _ (Nat.ne_of_gt el) a3
    have fr : H s.heap.objs.size = none := I.hok.fresh (Nat.le_refl _)
    refine ⟨.ref s.heap.objs.size, upd H s.heap.objs.size (.tup [.int i, x]), I.turnNew hf kk (Nat.le_refl _) ?_, rfl, ⟨_, x, fr, rfl, fun ys hy => ?_, rfl⟩, ⟨⟨u, ?_⟩, a2.kept fun o q => b2.extBut it o ne.symm q⟩, fun b hb => ?_⟩
    · exact ⟨by show 2 <= sizeLine; decide, [.int i s.toks, u], .cons ⟨_, rfl⟩ (.cons ru .nil), ⟨_, tt, rfl, 0, rfl⟩⟩
    · rw [I.seq_inj hy hq]; exact hx
    · have : ((i + 1 : Nat) : Int) = (i : Int) + 1 := by push_cast; rfl
      rw [this]; exact b1
    · rw [upd_ne]
      · exact (hf b hb).1
      · rcases List.mem_cons.mp hb with rfl | hb
        · exact Nat.ne_of_lt el
        · rw [List.mem_singleton.mp hb]
          obtain ⟨o, q, _⟩ := hi.obj
          exact Nat.ne_of_lt (Heap.lt_size q)
  done := by
    intro X hP hw hK hc i pins s σ H E I hf st hg
    subst hP hw hK
    obtain ⟨⟨old, he⟩, hi⟩ := st
    obtain ⟨xs, hq, hx⟩ := hg
    obtain ⟨its, r, hs, hz⟩ := I.seq hq
    refine enum_done (I.ok.hd hc) he hi hs (by rw [<- r.length]; exact hx) fun h' q => ⟨rfl, I.turnM (t' := s.toks) hf fun b o hb z => q b o (fun y => hb (by simp [y])) z⟩
  self := fun _ _ _ _ _ st h => let ⟨⟨_, he⟩, _⟩ := st; wpAny_pyIter_enum he h
def iEnum (k : Kd) (K : PySem.W.Frag) (ta : TA) : TI := fun σ H R => ta σ H fun vs H1 => ∃ a xs, vs = [.ref a] /\ SqK k K H1 a xs /\ R (ItE k K a) H1
theorem boot_enumerate' : bootBuiltins "enumerate" = some (.type "enumerate") := by first | rfl | decide +kernel
theorem pi_enum {X : Cx} {elts : List Expr} {x1 : Nat} {tpos : Pos} {l : Expr} {ta : TA} {p pos : Pos} (k : Kd) (hg : Gl X "enumerate") (hm : X.mg "enumerate" = none) (ha : PA X [l] ta) (hs : starEach [l] X.env = [(false, eval l X.env)] := by rfl) :
    PI X (.Tuple elts x1 tpos) (.Call (.Name "enumerate" p) [l] [] pos) (iEnum k X.K ta) := by
  intro pins s σ H R I h
  refine Call_ (ld_blt I hg hm boot_enumerate' (PyProof.Rows.callWith_type1 (thn (ha pos pins s σ H _ I h) fun us s1 ⟨vs, H1, I1, r1, q1⟩ => ?_) hs rfl))
  obtain ⟨a, xs, rfl, hq, q⟩ := q1
  obtain ⟨u, rfl, ru⟩ := Vals.one r1
  cases (show u = Value.ref a from ru)
  obtain ⟨its, r, hsq, hz⟩ := I1.seq hq
  refine call_enum hsq fun h' a1 a2 a3 => wpAny_pyIter_enum (s := { s1 with heap := h' }) a1 ?_
  refine ⟨s1.heap.objs.size + 1, [s1.heap.objs.size + 1, s1.heap.objs.size], _, _, H1, rfl, I1.kept (t' := s1.toks) a3, turn_enum k a _ _ (Nat.succ_ne_self _), ⟨⟨_, a1⟩, a2⟩, fun b hb => ?_, q⟩
  rcases List.mem_cons.mp hb with rfl | hb
  · exact I1.fpOk (Nat.le_succ _) (I1.hok.fresh (Nat.le_succ _))
  · rw [List.mem_singleton.mp hb]; exact I1.fpOk (Nat.le_refl _) (I1.hok.fresh (Nat.le_refl _))
open AutoSeq1 (wpAny_loadPart')
section
variable {prog : Program} {w : World} {A : Around} {E : Value -> Shared -> Prop} {s : Shared}
end
structure Src (K : PySem.W.Frag) (mg : Str -> Option Value) (x : Str) (st : Stmt) (ps : List Str) : Prop where
  ex : ∃ f fd, Fun K x x st f fd /\ Binds K fd ps [] /\ mg x = some (.ref f)
structure Def (P : Program) (w : World) (K : PySem.W.Frag) (mg : Str -> Option Value) (base : Heap) (k : Nat) (x : Str) (ps : List Str) (sp : Sp) : Prop where
  ex : ∃ f fd, FnOk P w K mg base CX0 k f fd ps sp /\ Binds K fd ps [] /\ mg x = some (.ref f) /\ PySem.W.keepIn K (.ref f) = true
theorem Src.def {P : Program} {w : World} {K : PySem.W.Frag} {mg : Str -> Option Value} {base : Heap} {k : Nat} {x : Str} {st : Stmt} {N ps : List Str} {sp : Sp} (S : Src K mg x st ps) (sc : FnScope N ps (defScope st)) (len : ∀ vs H Q E, sp vs H Q E -> vs.length = ps.length)
    (hbody : ∀ (f : Addr) (cdv : Value) (A : Around) (outer : List Env) (s : Shared) (H : Hp) (vs : List V) (Q : VK) (E : XK), Room k (A.deeper (envOfC x (defScope st) s.heap.objs.size f cdv)) -> sp vs H Q E ->
      ∃ t, PSs (cxOf CX0 P w K mg base N x (defScope st) f cdv A outer s H E).nox (defBody st) t /\ t { nx := fun _ H' => Q .non H', rt := Q } (start N vs) H) : Def P w K mg base (k + 1) x ps sp := by
  obtain ⟨f, fd, F, b, m⟩ := S.ex
  exact ⟨f, fd, F.ok sc len (hbody f), b, m, F.kp⟩
theorem pe_def {X : Cx} {k : Nat} {x : Str} {ps : List Str} {sp : Sp} {e : Expr} {es : List Expr} {t : TA} {p pos : Pos} (D : Def X.prog X.w X.K X.mg X.base k x ps sp) (hr : Room k X.A) (hg : Gl X x) (ha : PA X (e :: es) t)
    (hdb : (x == ("__debug__" : Str)) = false := by decide) (he : starEach (e :: es) X.env = (false, eval e X.env) :: starEach es X.env := by rfl) (hpl : (backTo pos (starEach es X.env)).any (·.1) = false := by rfl) :
    PE X (.Call (.Name x p) (e :: es) [] pos) (tCall sp [] E0 t) := by
  obtain ⟨f, fd, F, b, m, kp⟩ := D.ex
  exact pe_call F hr hg m kp b .nil pass0 ha hdb he hpl
theorem Same.tup {K : PySem.W.Frag} {H H' : Hp} {a : Addr} {xs : List V} (e : Same H H') (h : SqT K H a xs) : SqT K H' a xs := by
  rcases h with (h | ⟨o, h⟩) | h
  · exact .inl (.inl (e _ _ h))
  · exact .inl (.inr ⟨o, e _ _ h⟩)
  · exact .inr h
theorem Same.seqK {K : PySem.W.Frag} {H H' : Hp} {k : Kd} {a : Addr} {xs : List V} (e : Same H H') (h : SqK k K H a xs) : SqK k K H' a xs := by
  cases k with
  | l => exact e.seq h
  | t => exact e.tup h
theorem Same.new {H : Hp} {p : Addr} {o : HO} (h : H p = none) : Same H (upd H p o) := fun b u e => by rw [upd_ne (ne_of_none e h)]; exact e
theorem Paired.at {α β : Type} {F : α -> β -> Prop} : ∀ {l₁ : List α} {l₂ : List β}, Paired F l₁ l₂ -> ∀ {i : Nat} {a : α}, l₁[i]? = some a -> ∃ b, l₂[i]? = some b /\ F a b
  | _, _, .nil, i, a, e => by simp at e
  | _, _, .cons r t, 0, a, e => by simp at e; subst e; exact ⟨_, rfl, r⟩
  | _, _, .cons r t, i + 1, a, e => by
    obtain ⟨b, h1, h2⟩ := Paired.at t (i := i) (by simpa using e)
    exact ⟨b, by simpa using h1, h2⟩
theorem Paired.snoc {α β : Type} {F : α -> β -> Prop} : ∀ {l₁ : List α} {l₂ : List β}, Paired F l₁ l₂ -> ∀ {a : α} {b : β}, F a b -> Paired F (l₁ ++ [a]) (l₂ ++ [b])
  | _, _, .nil, _, _, h => .cons h .nil
  | _, _, .cons r t, _, _, h => .cons r (Paired.snoc t h)
theorem take_succ_of {α : Type} {l : List α} {i : Nat} {a : α} (h : l[i]? = some a) : l.take (i + 1) = l.take i ++ [a] := by
  rw [List.take_add_one, h]; rfl
def ItK (k : Kd) (K : PySem.W.Frag) (a : Addr) : It := match k with | .l => Itl K a | .t => Itt K a
def iSeq (k : Kd) (K : PySem.W.Frag) (tl : TE) : TI := fun σ H R => tl σ H fun x H1 => ∃ a, x = .ref a /\ (∃ xs, SqK k K H1 a xs) /\ R (ItK k K a) H1
theorem pi_seq {X : Cx} {tg : Expr} (k : Kd) {l : Expr} {tl : TE} (hl : PE X l tl) : PI X tg l (iSeq k X.K tl) := by
  cases k with
  | l => exact pi_list hl
  | t => exact pi_tup hl
theorem itk_go {k : Kd} {K : PySem.W.Frag} {H : Hp} {a : Addr} {xs : List V} {i : Nat} (h : SqK k K H a xs) (hi : i < xs.length) : (ItK k K a).go i H := by
  cases k with
  | l => exact ⟨xs, xs[i], h, by simp [hi]⟩
  | t => exact ⟨xs, xs[i], h, by simp [hi]⟩
theorem itk_stop {k : Kd} {K : PySem.W.Frag} {H : Hp} {a : Addr} {xs : List V} {i : Nat} (h : SqK k K H a xs) (hi : xs.length <= i) : (ItK k K a).stop i H := by
  cases k with
  | l => exact ⟨xs, h, hi⟩
  | t => exact ⟨xs, h, hi⟩
theorem itk_yld {k : Kd} {K : PySem.W.Frag} {H H' : Hp} {a : Addr} {xs : List V} {i : Nat} {x : V} (h : SqK k K H a xs) (y : (ItK k K a).yld i H x H') : H' = H /\ xs[i]? = some x := by
  cases k with
  | l => exact ⟨y.1, y.2 xs h⟩
  | t => exact ⟨y.1, y.2 xs h⟩
theorem comp_seq {k : Kd} {K : PySem.W.Frag} {a : Addr} {xs : List V} {g : TG} {tt : TT} {te : TE} {fin : List V -> Hp -> Prop} {σ : St} {H : Hp} (S : St -> Prop) (Pv : Nat -> List V -> Hp -> Prop) (hσ : S σ) (h0 : Pv 0 [] H) (hz : xs.length < sizeLine)
    (hl : ∀ i ys H, i <= xs.length -> Pv i ys H -> SqK k K H a xs)
    (hs : ∀ (i : Nat) (x : V) (ys : List V) (σ : St) (H : Hp) (N : List V -> St -> Hp -> Prop), xs[i]? = some x -> S σ -> Pv i ys H -> (∀ ys' σ' H', S σ' -> Pv (i + 1) ys' H' -> ys'.length <= ys.length + 1 -> N ys' σ' H') ->
      g x σ H fun σ2 H2 => tt σ2 H2 fun b H3 => if b = true then te σ2 H3 fun y H4 => N (ys ++ [y]) σ2 H4 else N ys σ2 H3)
    (hd : ∀ ys H, Pv xs.length ys H -> fin ys H) : ∃ W, CompW (ItK k K a) g tt te fin W /\ ∃ m, W 0 m [] σ H := by
  refine ⟨fun i m ys σ H => m = xs.length - i /\ i <= xs.length /\ ys.length <= i /\ S σ /\ Pv i ys H, ?_, xs.length, by simp, Nat.zero_le _, Nat.le_refl _, hσ, h0⟩
  rintro i m ys σ H ⟨rfl, hi, hy, hS, p⟩
  have q := hl i ys H hi p
  by_cases hlt : i < xs.length
  · refine .inr ⟨itk_go q hlt, by lia, fun x H' y => ?_⟩
    obtain ⟨e, hy2⟩ := itk_yld q y
    subst e
    have := hs i x ys σ H' (fun ys' σ' H'' => ∃ m', m' < xs.length - i /\ m' = xs.length - (i + 1) /\ i + 1 <= xs.length /\ ys'.length <= i + 1 /\ S σ' /\ Pv (i + 1) ys' H'') hy2 hS p (fun ys' σ' H'' a b c => ⟨_, by lia, rfl, hlt, by lia, a, b⟩)
    exact this
  · have e : i = xs.length := by lia
    subst e
    exact .inl ⟨itk_stop q (Nat.le_refl _), by lia, hd ys H p⟩
theorem for_enum {k : Kd} {K : PySem.W.Frag} {a : Addr} {xs : List V} {g : TG} {tb : TS} {D : Ends} {σ : St} {H : Hp} (Pv : Nat -> St -> Hp -> Prop) (h0 : Pv 0 σ H) (hl : ∀ i σ H, i <= xs.length -> Pv i σ H -> SqK k K H a xs)
    (hs : ∀ (i : Nat) x p σ H, xs[i]? = some x -> Pv i σ H -> H p = none -> g (.ref p) σ (upd H p (.tup [.int i, x])) fun σ2 H2 => tb { D with nx := Pv (i + 1), ct := Pv (i + 1), bk := D.nx } σ2 H2) (hd : ∀ σ H, Pv xs.length σ H -> D.nx σ H) :
    ∃ W : Nat -> Nat -> St -> Hp -> Prop, (∃ m, W 0 m σ H) /\ ∀ i m σ H, W i m σ H ->
      ((ItE k K a).stop i H /\ D.nx σ H) \/ ((ItE k K a).go i H /\ ∃ N : St -> Hp -> Prop, (∀ σ' H', N σ' H' -> ∃ m', m' < m /\ W (i + 1) m' σ' H') /\ ∀ x H', (ItE k K a).yld i H x H' -> g x σ H' fun σ2 H2 => tb { D with nx := N, ct := N, bk := D.nx } σ2 H2) := by
  refine ⟨fun i m σ H => m = xs.length - i /\ i <= xs.length /\ Pv i σ H, ⟨xs.length, by simp, Nat.zero_le _, h0⟩, ?_⟩
  rintro i m σ H ⟨rfl, hi, p⟩
  have q := hl i σ H hi p
  by_cases hlt : i < xs.length
  · refine .inr ⟨⟨xs, xs[i], q, by simp [hlt]⟩, Pv (i + 1), fun σ' H' p' => ⟨xs.length - (i + 1), by lia, rfl, hlt, p'⟩, fun x H' y => ?_⟩
    obtain ⟨r, y, hn, rfl, hy, rfl⟩ := y
    exact hs i y r σ H (hy xs q) p hn
  · have e : i = xs.length := by lia
    subst e
    exact .inl ⟨⟨xs, q, Nat.le_refl _⟩, hd σ H p⟩
theorem units66 {A : Around} {k : Nat} (hr : Room k A) : A.units + 66 < cLine := by have := hr.un; lia
def compB (kinds : List (Str × NameKind)) (N : List Str) (scope : Scope) (N' : List Str) (fr : List (Option Nat)) : Bool :=
  (scope.kind == .function) && (scope.names.all fun y => y.2 != .cell) && (scope.names.all fun y => y.2 != .local || scope.names.lookup y.1 == some .local) &&
  (scope.names.all fun y => y.2 != .free || (kinds.lookup y.1 == some .cell || kinds.lookup y.1 == some .free)) && frOk N kinds scope.names N' fr
theorem compOk_of {X : Cx} {scope : Scope} {N' : List Str} {fr : List (Option Nat)} (h : compB X.env.scope.names X.N scope N' fr = true) : CompOk X scope N' fr := by
  unfold compB at h
  simp only [Bool.and_eq_true, List.all_eq_true] at h
  obtain ⟨⟨⟨⟨h1, h2⟩, h3⟩, h4⟩, h5⟩ := h
  refine ⟨by simpa using h1, fun y hy => by simpa using h2 y hy, fun y hy e => ?_, fun y hy e => ?_, h5⟩
  · have := h3 y hy
    rw [e] at this
    simpa using this
  · have := h4 y hy
    rw [e] at this
    simpa [Env.kindOf] using this
theorem yesT {σ : St} {H : Hp} {A B : Hp -> Prop} (h : A H) : tYes σ H fun b H3 => if b = true then A H3 else B H3 := by
  show if true = true then A H else B H
  exact iteT h
section
open PySem.SeqAt
open PySem.AutoSeq1 (wpAny_loadPart')
open PySem.MeetsSeq PySem.MeetsSeq2 PySem.MeetsSeq3
end
section
variable {X : Cx}
end
theorem comp_range {lo : Int} {n : Nat} {g : TG} {tt : TT} {te : TE} {fin : List V -> Hp -> Prop} {σ : St} {H : Hp} (S : St -> Prop) (Pv : Nat -> List V -> Hp -> Prop) (hσ : S σ) (h0 : Pv 0 [] H) (hz : n < sizeLine)
    (hs : ∀ (i : Nat) (ys : List V) (σ : St) (H : Hp) (N : List V -> St -> Hp -> Prop), i < n -> S σ -> Pv i ys H -> (∀ ys' σ' H', S σ' -> Pv (i + 1) ys' H' -> ys'.length <= ys.length + 1 -> N ys' σ' H') ->
      g (.int (lo + i)) σ H fun σ2 H2 => tt σ2 H2 fun b H3 => if b = true then te σ2 H3 fun y H4 => N (ys ++ [y]) σ2 H4 else N ys σ2 H3)
    (hd : ∀ ys H, Pv n ys H -> fin ys H) : ∃ W, CompW (Itr lo n) g tt te fin W /\ ∃ m, W 0 m [] σ H := by
  refine ⟨fun i m ys σ H => m = n - i /\ i <= n /\ ys.length <= i /\ S σ /\ Pv i ys H, ?_, n, by simp, Nat.zero_le _, Nat.le_refl _, hσ, h0⟩
  rintro i m ys σ H ⟨rfl, hi, hy, hS, p⟩
  by_cases hlt : i < n
  · refine .inr ⟨hlt, by omega, fun x H' y => ?_⟩
    obtain ⟨e, y⟩ := y
    subst e y
    exact hs i ys σ _ (fun ys' σ' H'' => ∃ m', m' < n - i /\ m' = n - (i + 1) /\ i + 1 <= n /\ ys'.length <= i + 1 /\ S σ' /\ Pv (i + 1) ys' H'') hlt hS p (fun ys' σ' H'' a b c => ⟨_, by omega, rfl, hlt, by omega, a, b⟩)
  · have e : i = n := by omega
    subst e
    exact .inl ⟨Nat.le_refl _, by omega, hd ys H p⟩
section
variable {X : Cx}
def TJ := St -> Hp -> Str -> (Str -> Hp -> Prop) -> Prop
def PJ (X : Cx) (es : List Expr) (t : TJ) : Prop := ∀ (pins : List (Addr × Obj)) (s : Shared) (σ : St) (H : Hp) (acc : Str) (Q : Str -> Hp -> Prop), Inv X pins σ H s -> t σ H acc Q ->
  Joins (model X.prog X.w) X.A X.xe (evalEach es X.env) acc (fun out s1 => ∃ H', Inv X pins σ H' s1 /\ Q out H') s
def tJ0 : TJ := fun _ H acc Q => Q acc H
def tJ1 (te : TE) (tr : TJ) : TJ := fun σ H acc Q => te σ H fun v H1 => ∃ y, v = .str y /\ (acc ++ y).length <= sizeLine /\ tr σ H1 (acc ++ y) Q
theorem pj_nil : PJ X [] tJ0 := fun _ _ _ H _ _ I h => ⟨H, I, h⟩
theorem joins_mono {M : Model} {A : Around} {E : Value -> Shared -> Prop} : ∀ {es : List (Sem Value)} {acc : Str} {Q Q' : Str -> Shared -> Prop} {s : Shared}, (∀ o s, Q o s -> Q' o s) -> Joins M A E es acc Q s -> Joins M A E es acc Q' s
  | [], _, _, _, _, f, h => f _ _ h
  | e :: es, _, _, _, _, f, h => thn h fun v s1 ⟨y, t, e1, e2, e3⟩ => ⟨y, t, e1, e2, joins_mono f e3⟩
theorem pj_cons {e : Expr} {es : List Expr} {te : TE} {tr : TJ} (he : PE X e te) (hr : PJ X es tr) : PJ X (e :: es) (tJ1 te tr) := by
  intro pins s σ H acc Q I h
  show wpAny _ _ (eval e X.env) _ _ s
  refine thn (he pins s σ H _ I h) fun v s1 ⟨x, H1, I1, r1, y, e1, hl, q⟩ => ?_
  subst e1
  obtain ⟨t, rfl⟩ := r1
  exact ⟨y, t, rfl, hl, hr pins s1 σ H1 _ Q I1 q⟩
theorem pe_joined {v1 v2 : Expr} {rest : List Expr} {t : TJ} {pos : Pos} (h : PJ X (v1 :: v2 :: rest) t) : PE X (.JoinedStr (v1 :: v2 :: rest) pos) (fun σ H Q => t σ H Str.empty fun out H' => out.length <= sizeLine /\ Q (.str out) H') := by
  intro pins s σ H Q I hw
  refine wpAny_JoinedStr (joins_mono (fun o s1 ⟨H', I', hl, q⟩ => ⟨hl, ?_⟩) (h pins s σ H _ _ I hw))
  exact ⟨.str o, H', I'.tok _, ⟨_, rfl⟩, q⟩
theorem pe_fint {value : Expr} {te : TE} {pos : Pos} (h : PE X value te) : PE X (.FormattedValue value (-1) none pos) (fun σ H Q => te σ H fun v H1 => ∃ i, v = .int i /\ i.natAbs.log2 < 1920 /\ Q (.str (toString i)) H1) := by
  intro pins s σ H Q I hw
  refine wpAny_FormattedValue_plain (thn (h pins s σ H _ I hw) fun v s1 ⟨x, H1, I1, r1, i, e1, hl, q⟩ => ?_)
  subst e1
  obtain ⟨t, rfl⟩ := r1
  exact wpAny_formatField_int hl ⟨.str _, H1, I1.tok _, ⟨_, rfl⟩, q⟩
end
theorem ObjOk.there {P : Program} {w : World} {H : Hp} {h : Heap} {a : Addr} {o : HO} (x : ObjOk P w H h a o) : ∃ u, h.get? a = some u := by
  cases o with
  | lst xs => obtain ⟨_, _, _, _, e⟩ := x; exact ⟨_, e⟩
  | tup xs => obtain ⟨_, _, _, _, e, _⟩ := x; exact ⟨_, e⟩
  | dK kvs => obtain ⟨_, _, _, _, o, _, _, e, _⟩ := x; exact ⟨_, e⟩
  | dT kvs => obtain ⟨_, _, _, _, o, _, _, e, _⟩ := x; exact ⟨_, e⟩
  | set S n => obtain ⟨o, _, _, _, e, _⟩ := x; exact ⟨_, e⟩
  | ins C dx fs => obtain ⟨_, _, _, e, _⟩ := x; exact ⟨_, e⟩
  | own y => exact x
  | xd fs => obtain ⟨_, ⟨_, _, _, e, _⟩, _⟩ := x; exact ⟨_, e⟩
  | rng lo hi => obtain ⟨_, _, _, e⟩ := x; exact ⟨_, e⟩
  | frz ob u => exact ⟨_, x.1⟩
  | tbl ps => exact ⟨_, show h.get? a = some { cls := .none, data := .fields ps } from x⟩
  | met f y => exact ⟨_, show h.get? a = some (PySem.W.methodObj (.ref f) (.ref y)) from x⟩
  | ext φ => exact x.2.1
theorem HOk.stays {P : Program} {w : World} {H : Hp} {h h' : Heap} (x : HOk P w H h) (k : ∀ b u v, H b = some v -> h.get? b = some u -> h'.get? b = some u) : HOk P w H h' := fun a o e => by
  refine (x a o e).stay (fun b u hb q => ?_) (fun _ q => q) fun _ _ q => q
  rcases hb with rfl | hb
  · exact k _ u _ e q
  · exact k b u _ hb q
def CXr (P : Program) (w : World) : CXT := fun outer H s E e s' => ∃ (ea C : Addr) (a0 : Value) (B : Heap) (H' : Hp), e = .ref ea /\ s'.os = s.os /\ AllBare s'.gens /\ Un (frs outer) [] H H' s.heap s'.heap /\ HOk P w H' s'.heap /\
  Heap.FlyingW B outer ea (.ref C) a0 s'.heap /\ (∀ b o, s'.heap.get? b = some o -> ((∃ q, s.heap.get? b = some q) \/ ∃ q, H' b = some q) -> b ∉ frs outer -> B.get? b = some o) /\ E (.ref C) none H'
section
variable {P : Program} {w : World} {K : PySem.W.Frag} {mg : Str -> Option Value} {base : Heap} {N : List Str} {qual : Str} {scope : Scope} {f : Addr} {cd : Value} {A : Around} {outer : List Env} {s0 : Shared} {H0 : Hp} {E : XK}
theorem frames_nf {h : Heap} {B : Heap} {l : List Env} (F : h.FunFrames B l) {b : Addr} {o : Obj} (hb : b ∈ frs l) (e : h.get? b = some o) : ∀ vs, o.data ≠ .fields vs := by
  obtain ⟨_, o', h1, h2⟩ := F.mem hb
  rw [e] at h1
  cases h1
  exact h2
theorem leave_raise {pins : List (Addr × Obj)} {σ : St} {H : Hp} {s2 : Shared} {h' : Heap} {e C : Addr} {vs : List Value} {E2 : Value -> Shared -> Prop} (I : Inv (cxOf (CXr P w) P w K mg base N qual scope f cd A outer s0 H0 E) pins σ H s2)
    (hx : Heap.MadeExcOf s2.heap h' e (.ref C) vs) (q : E (.ref C) none H) :
    wpAny (model P w) (A.deeper (envOfC qual scope s0.heap.objs.size f cd)) (leaving (envOfC qual scope s0.heap.objs.size f cd) (.ref e)) (fun _ s'' => CXr P w outer H0 s0 E (.ref e) s'') E2 { s2 with heap := h' } := by
  have hin : ∀ env ∈ (envOfC qual scope s0.heap.objs.size f cd :: outer), ∀ b, env.frame = some b -> b ∈ frs (envOfC qual scope s0.heap.objs.size f cd :: outer) := fun env he b hb => List.mem_filterMap.mpr ⟨env, he, hb⟩
  have St : s2.heap.FunFrames base (envOfC qual scope s0.heap.objs.size f cd :: outer) := I.stack
  have hfr : (A.deeper (envOfC qual scope s0.heap.objs.size f cd)).frames = some (envOfC qual scope s0.heap.objs.size f cd :: outer) := I.ok.frames
  refine wpAny_leaves_madeW (s := { s2 with heap := h' }) (base := PySem.W.hideAll s2.heap (frs (envOfC qual scope s0.heap.objs.size f cd :: outer))) hfr rfl (fun b o z => PySem.W.of_hideAll _ z) (PySem.W.funFrames_hide St hin) hx fun h'' t x1 _ _ x4 => ?_
  have up : s2.heap.UpToSlots h'' := (Heap.UpToSlots.of_keeps hx.keeps).trans x4
  have fsub : ∀ b, b ∈ frs (envOfC qual scope s0.heap.objs.size f cd :: outer) -> b = s0.heap.objs.size \/ b ∈ frs outer := fun b hb => by
    have e : frs (envOfC qual scope s0.heap.objs.size f cd :: outer) = s0.heap.objs.size :: frs outer := rfl
    rw [e] at hb
    exact List.mem_cons.mp hb
  have kept : ∀ b o, b ≠ s0.heap.objs.size -> b ∉ frs outer -> s2.heap.get? b = some o -> (PySem.W.hideAll s2.heap (frs (envOfC qual scope s0.heap.objs.size f cd :: outer))).get? b = some o := fun b o n1 n2 z =>
    PySem.W.hideAll_get _ z fun hm => (fsub b hm).elim n1 n2
  have slot : ∀ b o, b ∈ frs outer -> s2.heap.get? b = some o -> ∃ sl, h''.get? b = some { o with slots := sl } := fun b o hb z => up b o z (frames_nf I.funs hb z)
  have B : Un (frs outer) [] H0 H s0.heap s2.heap := I.base
  have ne0 : ∀ b o, s0.heap.get? b = some o -> b ≠ s0.heap.objs.size := fun b o z => Nat.ne_of_lt (Heap.lt_size z)
  have freeL : H s0.heap.objs.size = none := I.free
  have trk : ∀ b u v, H b = some v -> s2.heap.get? b = some u -> (PySem.W.hideAll s2.heap (frs (envOfC qual scope s0.heap.objs.size f cd :: outer))).get? b = some u := fun b u v hv z => by
    refine PySem.W.hideAll_get _ z fun hm => ?_
    have := I.stkFree b hm
    rw [hv] at this
    cases this
  refine ⟨e, C, _, _, H, rfl, I.os, I.bare, ⟨fun b o z n hb hx' => ?_, fun b o z n hb hx' => ?_, B.free, fun b o z hx' => ?_, B.tups, B.frzs, B.tbls⟩, ?_, x1, fun b o z hh hb => ?_, q⟩
  · exact x1.1 b o (kept b o (ne0 b o z) hb (B.keep b o z n hb hx'))
  · obtain ⟨sl, z2⟩ := B.slot b o z n hb hx'
    obtain ⟨sl', z3⟩ := slot b _ hb z2
    exact ⟨sl', z3⟩
  · obtain ⟨o', z2⟩ := B.there b o z hx'
    by_cases hb : b ∈ frs outer
    · obtain ⟨sl', z3⟩ := slot b _ hb z2
      exact ⟨_, z3⟩
    · exact ⟨_, x1.1 b o' (kept b o' (ne0 b o z) hb z2)⟩
  · exact I.hok.stays fun b u v hv z => x1.1 b u (trk b u v hv z)
  · have : ∃ u, (PySem.W.hideAll s2.heap (frs (envOfC qual scope s0.heap.objs.size f cd :: outer))).get? b = some u := by
      rcases hh with ⟨q1, z1⟩ | ⟨q1, z1⟩
      · obtain ⟨o', z2⟩ := B.there b q1 z1 (by simp)
        exact ⟨o', kept b o' (ne0 b q1 z1) hb z2⟩
      · obtain ⟨u, z2⟩ := (I.hok b q1 z1).there
        exact ⟨u, trk b u _ z1 z2⟩
    obtain ⟨u, hu⟩ := this
    have := x1.1 b u hu
    rw [z] at this
    cases this
    exact hu
end
abbrev bmVE : List Value := [.type "ValueError", .type "Exception", .type "BaseException", .type "object"]
structure ExcAt (h : Heap) (C : Addr) (bm : List Value) : Prop where
  ex : ∃ (N : Addr) (nm qn : Str) (bs : List Value) (hd : Bool) (sn : List Str) (sub : List Value) (ab : Bool) (col : Option Bool) (dd : Option Addr) (k0 k1 k2 k3 k5 : Option Value) (mN : Str -> Option Value),
    h.get? C = some (excClassObj nm qn C N bs bm hd sn sub ab col dd k0 k1 k2 k3 k5 "ValueError.__new__") /\ h.Ns N mN /\ mN "__init__" = none /\ OwnTail h bmVE bm
def excB (K : PySem.W.Frag) (C : Addr) (bm : List Value) : Bool := PySem.W.excIn K C bmVE "ValueError.__new__" && (match K.lookup C with | some o => (match o.data with | .cls cd => cd.mro == .ref C :: bm | _ => false) | _ => false)
theorem excAt_of {K : PySem.W.Frag} {h : Heap} {C : Addr} {bm : List Value} (X : K.In h) (z : excB K C bm = true) : ExcAt h C bm := by
  unfold excB at z
  rw [Bool.and_eq_true] at z
  obtain ⟨z1, z2⟩ := z
  unfold PySem.W.excIn at z1
  split at z1
  next dd cd sl lk =>
    rw [lk] at z2
    split at z1
    next C2 bm2 k0 k1 k2 k3 n k5 hm hs =>
      simp only [Bool.and_eq_true, beq_iff_eq, Bool.not_eq_true'] at z1
      obtain ⟨⟨⟨⟨⟨y1, y2⟩, y3⟩, y4⟩, y5⟩, y6⟩ := z1
      subst y1 y2
      have z3 : (cd.mro == .ref C2 :: bm) = true := z2
      rw [beq_iff_eq, hm] at z3
      cases z3
      cases cd with
      | mk nm bs mro ns qn hd sn sub ab col del =>
        have e1 : mro = .ref C2 :: bm := hm
        have e2 : del = false := y3
        subst e1 e2
        have e3 : sl = #[k0, k1, k2, k3, some (.builtin "ValueError.__new__"), k5] := by
          cases sl with
          | mk l => exact congrArg Array.mk hs
        subst e3
        exact ⟨ns, nm, qn, bs, hd, sn, sub, ab, col, dd, k0, k1, k2, k3, k5, _, X _ _ lk, .of_isNs (PySem.W.isNs_of_in X y5), PySem.W.nsMap_none_of_in X y5 y6, PySem.W.tail_of_in X y4⟩
    next => cases z1
  next => cases z1
section
variable {P : Program} {w : World} {K : PySem.W.Frag} {mg : Str -> Option Value} {base : Heap} {N : List Str} {qual : Str} {scope : Scope} {f : Addr} {cd : Value} {A : Around} {outer : List Env} {s0 : Shared} {H0 : Hp} {E : XK}
theorem bmVE_base : bmVE.contains (.type "BaseException") = true := by decide +kernel
theorem bmVE_value : bmVE.contains (.type "ValueError") = true := by decide +kernel
def tRaise (C : Addr) (E : XK) (ta : TA) : TS := fun _ σ H => ta σ H fun vs H1 => vs.length <= 100 /\ E (.ref C) none H1
end
end L2
namespace L2
open PySem PySem.Spec PyProof.Rows PySem.W
def excKB (K : Frag) (C : Addr) : Bool :=
  findIn K (.ref C) "__getattribute__" == some (some (.builtin "BaseException.__getattribute__")) && findIn K (.ref C) "__getattr__" == some none && findIn K (.ref C) "__class__" == some (some (.builtin "object.__class__"))
    && subIn K (.ref C) (.type "BaseException") == some true && subIn K (.ref C) (.type "object") == some true && (clsIn K C).isSome
structure ExcK (K : Frag) (C : Addr) : Prop where
  g1 : findIn K (.ref C) "__getattribute__" = some (some (.builtin "BaseException.__getattribute__"))
  g2 : findIn K (.ref C) "__getattr__" = some none
  g3 : findIn K (.ref C) "__class__" = some (some (.builtin "object.__class__"))
  g4 : subIn K (.ref C) (.type "BaseException") = some true
  g5 : subIn K (.ref C) (.type "object") = some true
  g6 : (clsIn K C).isSome = true
theorem excK_of {K : Frag} {C : Addr} (h : excKB K C = true) : ExcK K C := by
  unfold excKB at h
  simp only [Bool.and_eq_true, beq_iff_eq] at h
  obtain ⟨⟨⟨⟨⟨h1, h2⟩, h3⟩, h4⟩, h5⟩, h6⟩ := h
  exact ⟨h1, h2, h3, h4, h5, h6⟩
section
variable {K : Frag} {prog : Program} {w : World} {A : Around} {E : Value -> Shared -> Prop} {h : Heap} {g : Array GenState} {d : Drawn} {t : Nat} {os : OsState} {a C : Addr} {o : Obj}
theorem xc_get {R : Result -> Shared -> Prop} (Z : ExcK K C) (X : K.In h) (hx : h.get? a = some o) (hc : o.cls = .ref C) (hq : R (.ok (.ret (.ref C))) ⟨h, g, d, t, os⟩) :
    codeAny (model prog w) A (.call (.builtin "getset_descriptor.__get__") ⟨[.builtin "object.__class__", .ref a, .ref C], []⟩) R ⟨h, g, d, t, os⟩ := by
  have hT5 : (⟨h, g, d, t, os⟩ : Shared).TypeIs (.builtin "object.__class__") "getset_descriptor" := F.typeOf_object_class
  have hs : Looks (model prog w) h (isSubtype (.ref C) (.type (".".intercalate ("object.__class__".cutAt '.').dropLast))) true := by rw [F.owner_object_class]; exact looks_subIn X Z.g5
  refine codeAny_call_builtin F.slot_gs_get.plain F.entry_gs_get (F.slot_gs_get.check _ _ _ _ _ _ _ _ hT5 (F.args_gs_get _ _ _) ?_)
  repeat (any_goals (first | assumption | (with_reducible refine wpAny_loadPart_at hx ?_; rw [hc]) | with_reducible refine Looks.at hs ?_ | wp_step))
  refine ⟨Code.quiet_builtin _ (by decide +kernel), codeAny_builtin F.entry_object_class ?_⟩
  repeat (any_goals (first | assumption | (with_reducible refine wpAny_loadPart_at hx ?_; rw [hc]) | wp_step))
theorem xc_entry {tk : Tok} {Q : Fin -> Shared -> Prop} (Z : ExcK K C) (X : K.In h) (hx : h.get? a = some o) (hc : o.cls = .ref C) (hq : Q (.done (.ret (.ref C))) ⟨h, g, d, t, os⟩) :
    wpAny (model prog w) A (Builtin.«object.__getattribute__» ⟨[.ref a, .str "__class__" tk], []⟩) Q E ⟨h, g, d, t, os⟩ := by
  have hT5 : (⟨h, g, d, t, os⟩ : Shared).TypeIs (.builtin "object.__class__") "getset_descriptor" := F.typeOf_object_class
  have f5 := F.typeOf_object_class
  have f6 := F.slot_gs_get.lookup
  have f7 := F.slot_gs_set.lookup
  have l3 : Looks (model prog w) h (typeLookup (.ref C) "__class__") _ := looks_findIn X Z.g3
  repeat (any_goals (first | assumption | (with_reducible refine wpAny_loadPart_at hx ?_; rw [hc]) | with_reducible refine Looks.at l3 ?_ | wp_step))
  refine xc_get Z X hx hc ?_
  repeat (any_goals (first | assumption | wp_step))
theorem xc_check {M : Model} {nameV : Value} {Q : Unit -> Shared -> Prop} (Z : ExcK K C) (X : K.In h) (hx : h.get? a = some o) (hc : o.cls = .ref C) (hq : Q () ⟨h, g, d, t, os⟩) : wpAny M A (checkBuiltinCall "BaseException.__getattribute__" ⟨[.ref a, nameV], []⟩) Q E ⟨h, g, d, t, os⟩ := by
  have hk : builtinKind "BaseException.__getattribute__" = some .slot := by decide +kernel
  have hsplit : splitId "BaseException.__getattribute__" = some ("BaseException", "__getattribute__") := by decide +kernel
  have ha := F.args_bexc_ga (.ref a) nameV
  have hs : Looks M h (isSubtype (.ref C) (.type "BaseException")) true := looks_subIn X Z.g4
  simp only [checkBuiltinCall, hk, hsplit]
  refine wpAny_bind ?_
  unfold isInstance
  repeat (first | (with_reducible refine wpAny_loadPart_at hx ?_; rw [hc]) | with_reducible refine Looks.at hs ?_ | wp_step)
  exact hq
theorem xc_call {tk : Tok} {R : Result -> Shared -> Prop} (Z : ExcK K C) (X : K.In h) (hx : h.get? a = some o) (hc : o.cls = .ref C) (hq : R (.ok (.ret (.ref C))) ⟨h, g, d, t, os⟩) :
    codeAny (model prog w) A (.call (.builtin "BaseException.__getattribute__") ⟨[.ref a, .str "__class__" tk], []⟩) R ⟨h, g, d, t, os⟩ :=
  codeAny_call_builtin F.attrBase_ValueError.ga.plain F.entry_bexc_ga (xc_check Z X hx hc (xc_entry Z X hx hc hq))
theorem xc_by {tk : Tok} {Q : Value -> Shared -> Prop} (Z : ExcK K C) (X : K.In h) (hx : h.get? a = some o) (hc : o.cls = .ref C) (hq : Q (.ref C) ⟨h, g, d, t, os⟩) :
    wpAny (model prog w) A (getAttrBy (.ref a) (.str "__class__" tk) false) Q E ⟨h, g, d, t, os⟩ := by
  have f3 := F.attrBase_ValueError.ga.bind (.ref a)
  have y0 : (false && onTheHeap (Value.builtin "BaseException.__getattribute__")) = false := rfl
  have y2 : (Value.builtin "BaseException.__getattribute__" == Value.builtin "object.__getattribute__") = false := by decide +kernel
  have y1 : (onTheHeap (Value.ref C) && Value.builtin "BaseException.__getattribute__" == Value.builtin "object.__getattribute__") = false := by rw [y2]; rfl
  have l1 : Looks (model prog w) h (typeLookup (.ref C) "__getattribute__") _ := looks_findIn X Z.g1
  have l2 : Looks (model prog w) h (typeLookup (.ref C) "__getattr__") _ := looks_findIn X Z.g2
  repeat (any_goals (first | assumption | (with_reducible refine wpAny_loadPart_at hx ?_; rw [hc]) | with_reducible refine Looks.at l1 ?_ | with_reducible refine Looks.at l2 ?_ | wp_step))
  refine xc_call Z X hx hc ?_
  repeat (any_goals (first | assumption | wp_step))
theorem xc_attr {Q : Option Value -> Shared -> Prop} (Z : ExcK K C) (X : K.In h) (hx : h.get? a = some o) (hc : o.cls = .ref C) (hq : Q (some (.ref C)) ⟨h, g, d, t + 1, os⟩) :
    wpAny (model prog w) A (getAttr? (.ref a) "__class__") Q E ⟨h, g, d, t, os⟩ := by
  unfold getAttr? getAttrBy?
  repeat (any_goals (first | assumption | with_reducible apply xc_by Z X hx hc | wp_step))
end
def ExcObj (a C : Addr) (h : Heap) : Prop := ∃ o, h.get? a = some o /\ o.cls = .ref C
theorem kitx_exc {K : Frag} {a C : Addr} (Z : ExcK K C) : KitX K (.ref a) (.ref C) (ExcObj a C) where
  ty := fun M h _ p => by
    obtain ⟨o, h1, h2⟩ := p
    exact h2 ▸ (Looks.ld h1).andThen .now
  it := fun M h X _ => by
    have z0 := Z.g6
    unfold clsIn at z0
    split at z0
    · rename_i ho
      intro A' Q' E' s' k q
      unfold isType loadHead
      exact wpAny_bind (wpAny_loadPart (k _ _ (X _ _ ho)) (wpAny_pure q))
    · cases z0
  ne := fun h tp dd its n sl X htp => by
    refine Bool.eq_false_iff.mpr fun q => ?_
    have e : Value.ref C = .ref tp := beq_iff_eq.mp q
    cases e
    have z0 := Z.g6
    unfold clsIn at z0
    split at z0
    · rename_i ho
      rw [X _ _ ho] at htp
      cases htp
    · cases z0
  ca := fun {prog w A E Q s} X p k => by
    obtain ⟨h, g, d, t, os⟩ := s
    obtain ⟨o, h1, h2⟩ := p
    exact xc_attr Z X h1 h2 k
section
variable {X : Cx}
end
end L2
namespace L2
open PySem PySem.Spec PyProof.Rows PySem.W
section
variable {X : Cx} {pins : List (Addr × Obj)} {σ : St} {H H' : Hp} {s s' : Shared}
theorem Inv.track {a : Addr} {o : HO} (I : Inv X pins σ H s) (hn : H a = none) (new : ObjOk X.prog X.w (upd H a o) s.heap a o) (hL : a ≠ X.env.locals) (hC : ∀ x c, X.env.cells.lookup x = some c -> c ≠ a) (hp : ∀ p ∈ X.pn ++ pins, p.1 ≠ a)
    (h0 : ∀ b u, X.s₀.heap.get? b = some u -> b ∉ X.ex -> b ≠ a) : Inv X pins σ (upd H a o) s := by
  have up : ∀ b v, H b = some v -> upd H a o b = some v := fun b v e => by rw [upd_ne (ne_of_none e hn)]; exact e
  refine ⟨I.ok, I.os, I.bare, ⟨I.base.keep, I.base.slot, fun b u e n hx => ?_, I.base.there, fun b xs e => up _ _ (I.base.tups b xs e), fun b u xs e => up _ _ (I.base.frzs b u xs e), fun b ps e => ?_⟩, I.loc, I.cell, ?_, fun x c e => ?_, fun p q => ?_, HOk.track I.hok hn new, I.len⟩
  · rw [upd_ne (h0 b u e hx)]
    exact I.base.free b u e n hx
  · obtain ⟨m, e'⟩ := I.base.tbls b ps e
    exact ⟨m, up _ _ e'⟩
  · rw [upd_ne (Ne.symm hL)]
    exact I.free
  · rw [upd_ne (hC x c e)]
    exact I.freeC x c e
  · obtain ⟨e, n, r⟩ := I.pin p q
    exact ⟨e, by rw [upd_ne (hp p q)]; exact n, r⟩
theorem unbind_ok {M : Model} {A : Around} {E : Value -> Shared -> Prop} {i : Nat} {x : Str} {pos : Pos} {Q : Unit -> Shared -> Prop} (I : Inv X pins σ H s) (hN : X.N.Nodup) (hi : X.N[i]? = some x) (hx : X.env.scope.names.lookup x = some .local)
    (h : ∀ s', Inv X pins (σ.set i none) H s' -> Q () s') : wpAny M A (do bindName X.env x .none; unbindBehindTheSuite X.env x pos) Q E s := by
  obtain ⟨m, hn, hl⟩ := id I.loc
  have kd : (X.env.scope.kind == .class || (X.env.scope.kind == .module && X.env.locals != X.env.globals)) = false := by rw [I.ok.kind]; rfl
  have hiσ : i < σ.length := by rw [I.len]; exact (List.getElem?_eq_some_iff.mp hi).1
  refine wpAny_nameGoes_keeps (env := X.env) hx hn kd fun h' v hn' hs => ?_
  obtain ⟨oL, _, _, hoL, _⟩ := id hn
  have away : ∀ b o, X.s₀.heap.get? b = some o -> b ≠ X.env.locals := fun b o e => Nat.ne_of_lt (Nat.lt_of_lt_of_le (Heap.lt_size e) I.ok.above)
  refine h _ ⟨I.ok, I.os, I.bare, ⟨fun b o e n hb hx => (hs.2 b (away b o e)).trans (I.base.keep b o e n hb hx), fun b o e n hb hx => ?_, I.base.free, fun b o e hx => ?_, I.base.tups, I.base.frzs, I.base.tbls⟩, ⟨_, hn', fun j y v' e1 e2 e3 => ?_⟩, fun y c e => ?_, I.free, I.freeC, fun p hp => ?_, I.hok.stays fun b u v hv z => (hs.2 b fun q => ?_).trans z, by simpa using I.len⟩
  · obtain ⟨sl, e1⟩ := I.base.slot b o e n hb hx
    exact ⟨sl, (hs.2 b (away b o e)).trans e1⟩
  · obtain ⟨o', e1⟩ := I.base.there b o e hx
    exact ⟨o', (hs.2 b (away b o e)).trans e1⟩
  · by_cases hj : j = i
    · subst hj
      rw [List.getElem?_set_self hiσ] at e2
      cases e2
    · rw [List.getElem?_set_ne (Ne.symm hj)] at e2
      obtain ⟨u', r', q⟩ := hl j y v' e1 e2 e3
      refine ⟨u', r', ?_⟩
      rcases q with ⟨k, e⟩ | ⟨k, c, e, z⟩
      · refine .inl ⟨k, ?_⟩
        have : y ≠ x := fun e => hj (nodup_ix hN e1 (e ▸ hi))
        simp [this, e]
      · exact .inr ⟨k, c, e, z.sameBut hs (I.cne y c e)⟩
  · obtain ⟨w', z⟩ := I.cell y c e
    exact ⟨w', z.sameBut hs (I.cne y c e)⟩
  · obtain ⟨e, n, ne, nf, d⟩ := I.pin p hp
    exact ⟨(hs.2 p.1 ne).trans e, n, ne, nf, d⟩
  · rw [q, I.free] at hv
    cases hv
theorem caught_inv {B h' : Heap} (I : Inv X pins σ H s) (os : s'.os = s.os) (bare : AllBare s'.gens) (un : Un (frs X.stack) [] H H' s.heap s'.heap) (hok : HOk X.prog X.w H' s'.heap) (fr : s'.heap.FunFrames B X.stack)
    (kB : ∀ b o, s'.heap.get? b = some o -> ((∃ q, s.heap.get? b = some q) \/ ∃ q, H' b = some q) -> b ∉ frs X.stack -> B.get? b = some o) (st : B.StaysIn h') (up : s'.heap.UpToSlots h') : Inv X pins σ H' { s' with heap := h' } := by
  have sl : ∀ b o, b ∈ frs X.stack -> s'.heap.get? b = some o -> ∃ sl, h'.get? b = some { o with slots := sl } := fun b o hb z => up b o z (frames_nf fr hb z)
  refine I.call' (ch := []) (s' := { s' with heap := h' }) os ⟨fun b o z n hb hx => ?_, fun b o z n hb hx => ?_, un.free, fun b o z hx => ?_, un.tups, un.frzs, un.tbls⟩ (hok.stays fun b u v hv z => ?_) bare (fun b z => absurd z (by simp))
  · exact st b o (kB b o (un.keep b o z n hb hx) (.inl ⟨o, z⟩) hb)
  · obtain ⟨s1, z2⟩ := un.slot b o z n hb hx
    obtain ⟨s2, z3⟩ := sl b _ hb z2
    exact ⟨s2, z3⟩
  · obtain ⟨o', z2⟩ := un.there b o z hx
    by_cases hb : b ∈ frs X.stack
    · obtain ⟨s2, z3⟩ := sl b _ hb z2
      exact ⟨_, z3⟩
    · exact ⟨_, st b o' (kB b o' z2 (.inl ⟨o, z⟩) hb)⟩
  · refine st b u (kB b u z (.inr ⟨v, hv⟩) fun hb => ?_)
    obtain ⟨_, o, z1, _⟩ := I.stack.mem hb
    have := un.free b o z1 (I.stkFree b hb) (by simp)
    rw [hv] at this
    cases this
end
def Cx.marked (X : Cx) (v : Value) : Cx := { X with A := X.A.mark (some v), calm := false, xe := fun _ _ => False }
section
variable {X : Cx} {pins : List (Addr × Obj)} {σ : St} {H H' : Hp} {s s' : Shared} {v : Value}
theorem Inv.mark (I : Inv X pins σ H s) : Inv (X.marked v) pins σ H s :=
  ⟨⟨I.ok.mod, I.ok.kind, I.ok.glob, I.ok.blt, I.ok.above, I.ok.inj, I.ok.has, I.ok.cab, fun z => (by cases z), I.ok.frames, I.ok.stk, I.ok.exf, I.ok.bs, I.ok.bsz, I.ok.noex, I.ok.exfs, I.ok.funs, I.ok.frf⟩, I.os, I.bare, I.base, I.loc, I.cell, I.free, I.freeC, I.pin, I.hok, I.len⟩
theorem Inv.unmark (I : Inv (X.marked v) pins σ H s) (hd : X.calm = true -> X.A.handled = none) : Inv X pins σ H s :=
  ⟨⟨I.ok.mod, I.ok.kind, I.ok.glob, I.ok.blt, I.ok.above, I.ok.inj, I.ok.has, I.ok.cab, hd, I.ok.frames, I.ok.stk, I.ok.exf, I.ok.bs, I.ok.bsz, I.ok.noex, I.ok.exfs, I.ok.funs, I.ok.frf⟩, I.os, I.bare, I.base, I.loc, I.cell, I.free, I.freeC, I.pin, I.hok, I.len⟩
end
theorem xc_matches {K : Frag} {M : Model} {A : Around} {E : Value -> Shared -> Prop} {h : Heap} {g : Array GenState} {d : Drawn} {t : Nat} {os : OsState} {e C W : Addr} {oe : Obj} {bmW : List Value} {Q : Bool -> Shared -> Prop} (X : K.In h) (hW : excB K W bmW = true) (sb : subIn K (.ref C) (.ref W) = some true)
    (he : h.get? e = some oe) (hcls : oe.cls = .ref C) (hq : Q true ⟨h, g, d, t, os⟩) : wpAny M A (excMatches (.ref e) (.ref W)) Q E ⟨h, g, d, t, os⟩ := by
  obtain ⟨N, nm, qn, bs, hd, sn, sub, ab, col, dd, k0, k1, k2, k3, k5, mN, hC, e2, e3, e4⟩ := (excAt_of X hW).ex
  have c1 : (Value.ref W :: bmW).contains (.type "BaseException") = true := by rw [List.contains_cons, e4.hasType bmVE_base, Bool.or_true]
  have l1 : Looks M h (isSubtype (.ref C) (.ref W)) true := looks_subIn X sb
  have f := tc_notTuple
  unfold excMatches
  repeat (first | (with_reducible refine wpAny_loadPart_at he ?_; rw [hcls]) | with_reducible refine wpAny_loadPart_at hC ?_ | with_reducible refine Looks.at l1 ?_ | (with_reducible refine wpAny_isSubtype_exc hC ?_; rw [c1]) | wp_step)
  exact hq
end L2
namespace L2
open PySem PySem.Spec PyProof.Rows
open PySem.AutoSeq1 (wpAny_loadPart')
section
variable {prog : Program} {w : World} {A : Around} {E : Value -> Shared -> Prop} {s : Shared}
theorem code_collect_range {R : Result -> Shared -> Prop} {r : Addr} {a b c : Int} {t u v : Tok} {n : Nat} (hh : A.handled = none) (hr : IsRange s.heap r a b c t u v) (hsm : Builtin.Range.small a b c = true) (hn : Builtin.Range.rangeSize a b c = n) (hl : n <= 2 ^ 24)
    (hR : ∀ h' tk acc c', (∀ b o, s.heap.get? b = some o -> h'.get? b = some o) -> h'.get? s.heap.objs.size = some { cls := .type "list", dict := none, data := .seq acc c', slots := #[] } -> ItemsOf (fun i v => ∃ t, v = .int (a + i * c) t) acc n ->
      R (.ok (.ret (.ref s.heap.objs.size))) { s with heap := h', toks := tk }) : codeAny (model prog w) A (.builtin "proto.collect" ⟨[.ref r], []⟩) R s := by
  refine codeAny_builtin PySem.F.entry_proto_collect ?_
  rw [Around.under_plainId PySem.F.plain_proto_collect _]
  show wpAny _ A.in1 (newList [] >>= fun l => again (.builtin "list.__iadd__" ⟨[l, .ref r], []⟩)) _ _ s
  refine wpAny_bind (wpAny_newObj_type ?_)
  refine wpAny_pure ⟨plainId_quiet PySem.F.plain_list_iadd _, codeAny_builtin PySem.F.entry_list_iadd ?_⟩
  rw [Around.under_plainId PySem.F.plain_list_iadd _]
  show wpAny _ A.in1 (Builtin.List.listExtendWith (.ref s.heap.objs.size) (.ref r) (.ref s.heap.objs.size)) _ _ _
  exact wpAny_extend_range (R := R) (s := { s with heap := s.heap.push { cls := .type "list", data := .seq ([] : List Value).toArray } }) hh (Heap.get?_push_of_some _ hr) hsm hn hl s.heap.objs.size (.ref s.heap.objs.size) 0 (Heap.get?_push_size _ rfl) fun h' tk acc c' hk hS hacc =>
    hR h' tk acc c' (fun b o e => hk b o (Nat.ne_of_lt (Heap.lt_size e)) (Heap.get?_push_of_some _ e)) hS hacc
theorem collect_range {Q : List Value -> Shared -> Prop} {r : Addr} {a b c : Int} {t u v : Tok} {n : Nat} (hh : A.handled = none) (hr : IsRange s.heap r a b c t u v) (hsm : Builtin.Range.small a b c = true) (hn : Builtin.Range.rangeSize a b c = n) (hl : n <= 2 ^ 24)
    (hQ : ∀ h' tk acc, (∀ b o, s.heap.get? b = some o -> h'.get? b = some o) -> s.heap.objs.size < h'.objs.size -> ItemsOf (fun i v => ∃ t, v = .int (a + i * c) t) acc n -> Q acc.toList { s with heap := h', toks := tk }) : wpAny (model prog w) A (collect (.ref r)) Q E s := by
  unfold collect
  refine wpAny_bind (wpAny_runValue (code_collect_range hh hr hsm hn hl fun h' tk acc c' hk hS hacc => ?_))
  show wpAny _ A (load s.heap.objs.size >>= _) _ _ _
  refine wpAny_bind (wpAny_load hS ?_)
  exact wpAny_pure (hQ h' tk acc hk (Heap.lt_size hS) hacc)
end
theorem new_tuple_range (r : Addr) (a b c : Int) (t u v : Tok) (n : Nat) (hsm : Builtin.Range.small a b c = true) (hn : Builtin.Range.rangeSize a b c = n) (hl : n <= 2 ^ 24) :
    Meets (Builtin.«tuple.__new__» ⟨[.type "tuple", .ref r], []⟩)
      (fun A R s => (A.handled = none /\ IsRange s.heap r a b c t u v) /\ ∀ (h' : Heap) (tk : Nat) (acc : Array Value), (∀ b o, s.heap.get? b = some o -> h'.get? b = some o) -> s.heap.objs.size < h'.objs.size -> ItemsOf (fun i v => ∃ t, v = .int (a + i * c) t) acc n ->
        R (.ok (.ret (.ref h'.objs.size))) { s with heap := h'.push { cls := .type "tuple", data := .seq acc }, toks := tk }) :=
  .of_wp fun prog w A R s h => by
    obtain ⟨⟨hh, hr⟩, h⟩ := h
    have hsub := sub_tuple_self
    have hinit := init_tuple_lookup
    have hmh := madeHere_tuple
    have hT : s.TypeIs (.ref r) "range" := ⟨_, hr, rfl⟩
    have hh1 : A.in1.handled = none := hh
    wp_walk using wpAny_typeOf hT, collect_range hh1 hr hsm hn hl
    intro h' tk acc hk hz hacc
    show wpAny _ _ (Builtin.Tuple.tupleExact acc.toList.toArray >>= fun v => ret v) _ _ _
    unfold Builtin.Tuple.tupleExact
    refine wpAny_bind (wpAny_newObj_type ?_ (show acc.toList.toArray.size <= sizeLine by simp only [Array.toArray_toList]; rw [hacc.1, sizeLine_eq]; omega))
    refine wpAny_pure ⟨_, rfl, ?_⟩
    have e : acc.toList.toArray = acc := by simp
    rw [e]
    exact h h' tk acc hk hz hacc
def upN (n : Nat) : List V := (List.range n).map fun (i : Nat) => V.int i
theorem items_up {acc : Array Value} {n : Nat} (h : ItemsOf (fun i v => ∃ t, v = .int (0 + (i : Int) * 1) t) acc n) : Vals (upN n) acc.toList := by
  obtain ⟨hz, hi⟩ := h
  have key : ∀ (l : List Value) (k : Nat), (∀ (j : Nat) (v : Value), l[j]? = some v -> ∃ t, v = Value.int ((k + j : Nat) : Int) t) -> Vals ((List.range' k l.length).map fun (i : Nat) => V.int i) l := by
    intro l
    induction l with
    | nil => intro k _; exact .nil
    | cons a r ih =>
      intro k hk
      obtain ⟨t, e⟩ := hk 0 a rfl
      refine .cons ⟨t, by simpa using e⟩ (ih (k + 1) fun j v e => ?_)
      obtain ⟨t', e'⟩ := hk (j + 1) v (by simpa using e)
      exact ⟨t', by rw [e']; congr 2; omega⟩
  have := key acc.toList 0 fun j v e => by
    obtain ⟨t, e'⟩ := hi j v (by simpa using e)
    exact ⟨t, by rw [e']; congr 1; simp⟩
  have el : acc.toList.length = n := by simpa using hz
  rw [el] at this
  unfold upN
  rw [List.range_eq_range']
  exact this
section
variable {X : Cx}
theorem call_range1 : CallR X (.type "range") (fun xs H Q => ∃ j : Int, xs = [.int j] /\ ∀ p, H p = none -> Q (.ref p) (upd H p (.rng 0 j))) := by
  intro pins s σ H xs us Q I r h
  obtain ⟨j, rfl, q⟩ := h
  obtain ⟨u, rfl, ru⟩ := Vals.one r
  obtain ⟨t, rfl⟩ := ru
  refine call_range_1 ⟨.ref s.heap.objs.size, upd H s.heap.objs.size (.rng 0 j), I.laid (fun b o e => Heap.get?_push_of_some _ e) (Nat.le_refl _) ?_, rfl, q _ (I.hok.fresh (Nat.le_refl _))⟩
  exact ⟨_, _, _, Heap.get?_push_size _ rfl⟩
theorem size1 (n : Nat) : Builtin.Range.rangeSize 0 (n : Int) 1 = (n : Int) := by rw [rangeSize_one]; split <;> omega
theorem call_list_rng (hc : X.calm = true) : CallR X (.type "list") (fun xs H Q => ∃ (p : Addr) (n : Nat), xs = [.ref p] /\ H p = some (.rng 0 n) /\ n <= 1000 /\ ∀ l, H l = none -> Q (.ref l) (upd H l (.lst (upN n)))) := by
  intro pins s σ H xs us Q I r h
  obtain ⟨p, n, rfl, hp, hn, q⟩ := h
  obtain ⟨u, rfl, ru⟩ := Vals.one r
  cases (show u = Value.ref p from ru)
  obtain ⟨t1, t2, t3, e⟩ := I.hok p _ hp
  refine call_list_range (t := t1) (u := t2) (v := t3) (I.ok.hd hc) e (small_one (by decide) (by decide) (by omega) (by omega)) (size1 n) (by omega) fun h' tk acc c' hk hS hacc => ?_
  refine ⟨.ref s.heap.objs.size, upd H s.heap.objs.size (.lst (upN n)), I.laid hk (Nat.le_refl _) ?_, rfl, q _ (I.hok.fresh (Nat.le_refl _))⟩
  exact ⟨by unfold upN; rw [List.length_map, List.length_range]; exact Nat.le_trans hn (by decide), acc.toList, c', items_up hacc, by rw [hS]⟩
theorem intsAre_V {ns : List Int} : ∀ {us : List Value}, Vals (ns.map V.int) us -> IntsAre us ns := by
  induction ns with
  | nil => intro us r; rw [Vals.zero r]; exact .nil
  | cons y ys ih =>
    intro us r
    cases r with
    | cons h t =>
      obtain ⟨tk, rfl⟩ := h
      exact .cons y tk (ih t)
theorem not_modules {pins : List (Addr × Obj)} {σ : St} {H : Hp} {s : Shared} (I : Inv X pins σ H s) : (s.heap.objs.size == sysModules) = false := by
  have h1 : mainGlobals < s.heap.objs.size := by
    obtain ⟨o, _, _, e, _⟩ := I.mod.glob
    exact Heap.lt_size (I.bk _ _ e)
  refine beq_eq_false_iff_ne.mpr fun z => ?_
  have h2 : sysModules <= mainGlobals := by decide
  rw [z] at h1
  exact absurd (Nat.lt_of_le_of_lt h2 h1) (Nat.lt_irrefl _)
theorem pe_dict0 {pos : Pos} : PE X (.Dict [] [] pos) (fun _ H Q => ∀ p, H p = none -> Q (.ref p) (upd H p (.dK []))) := by
  intro pins s σ H Q I h
  refine wpAny_Dict_empty ⟨.ref s.heap.objs.size, upd H s.heap.objs.size (.dK []), I.laid (t' := s.toks) (fun b o e => Heap.get?_push_of_some _ e) (Nat.le_refl _) ?_, rfl, h _ (I.hok.fresh (Nat.le_refl _))⟩
  exact ⟨Nat.zero_le _, not_modules I, [], .nil, Heap.DictOf.new s.heap⟩
end
theorem vals_of_ints {us : List Value} {ns : List Int} (h : IntsAre us ns) : Vals (ns.map V.int) us := by
  induction h with
  | nil => exact .nil
  | cons n t _ ih => exact .cons ⟨t, rfl⟩ ih
section
variable {X : Cx}
def rSortedI (K : PySem.W.Frag) : List V -> Hp -> VK -> Prop := fun xs H Q => ∃ (p : Addr) (ns : List Int), xs = [.ref p] /\ SqL K H p (ns.map V.int) /\ ns.length < 64 /\ ∀ (l : Addr) (ms : List Int), ms.Perm ns -> ms.Pairwise (· <= ·) -> H l = none -> Q (.ref l) (upd H l (.lst (ms.map V.int)))
theorem call_sortedI : CallR X (.builtin "sorted") (rSortedI X.K) := by
  intro pins s σ H xs us Q I r h
  obtain ⟨p, ns, rfl, hp, hn, q⟩ := h
  obtain ⟨u, rfl, ru⟩ := Vals.one r
  cases (show u = Value.ref p from ru)
  obtain ⟨its, r1, t1, _⟩ := I.list hp
  have hl : its.length = ns.length := by have := r1.length; rw [List.length_map] at this; lia
  refine sorted_ints t1.isList (intsAre_of r1) (by lia) fun out ms a1 a2 a3 => ?_
  obtain ⟨e, he⟩ := sortedAll_at s.heap its out
  have fr : s.heap.objs.size <= s.heap.objs.size + 1 := Nat.le_succ _
  refine ⟨.ref (s.heap.objs.size + 1), upd H (s.heap.objs.size + 1) (.lst (ms.map V.int)), I.laid (t' := s.toks) (fun b o z => sortedAll_old z) fr ?_, rfl, q _ ms a2 a3 (I.hok.fresh fr)⟩
  refine ⟨?_, out.toList, e, vals_of_ints a1, by rw [he]⟩
  rw [List.length_map, a2.length_eq]
  exact Nat.le_trans (Nat.le_of_lt hn) (by decide)
end
end L2
namespace L2
open PySem PySem.Spec PyProof.Rows PySem.W
abbrev TSX := Ends -> (St -> XK) -> St -> Hp -> Prop
def XP (X : Cx) (pins : List (Addr × Obj)) (DX : St -> XK) (e : Value) (s' : Shared) : Prop := ∃ σ H s, Inv X pins σ H s /\ CXr X.prog X.w X.stack H s (DX σ) e s'
section
variable {X : Cx}
def xCall (sp : Sp) (ta : TA) : TSX := fun D DX σ H => ta σ H fun vs H1 => sp (vs ++ []) H1 (fun _ H2 => D.nx σ H2) (DX σ)
end
end L2
namespace L2
open PySem PySem.Spec PyProof.Rows
section
variable {X : Cx}
end
section
variable {κ : Type} [DecidableEq κ]
def valV (kvs : List (κ × V)) (k : κ) : Option V := (kvs.find? fun kv => decide (kv.1 = k)).map (·.2)
def putK (kvs : List (κ × V)) (k : κ) (v : V) : List (κ × V) :=
  if (kvs.any fun kv => decide (kv.1 = k)) = true then kvs.map (fun kv => if kv.1 = k then (kv.1, v) else kv) else kvs ++ [(k, v)]
theorem valV_pos {p : κ × V} {r : List (κ × V)} {k : κ} (e : p.1 = k) : valV (p :: r) k = some p.2 := by simp [valV, List.find?_cons, e]
theorem valV_neg {p : κ × V} {r : List (κ × V)} {k : κ} (e : ¬ p.1 = k) : valV (p :: r) k = valV r k := by simp [valV, List.find?_cons, e]
theorem valV_any (k : κ) : ∀ kvs : List (κ × V), (kvs.any fun kv => decide (kv.1 = k)) = (valV kvs k).isSome
  | [] => rfl
  | p :: r => by
    rw [List.any_cons]
    by_cases e : p.1 = k
    · simp only [valV_pos e, decide_eq_true e, Bool.true_or, Option.isSome_some]
    · rw [valV_neg e, decide_eq_false e, Bool.false_or]; exact valV_any k r
theorem valV_map (k j : κ) (y : V) : ∀ kvs : List (κ × V), valV (kvs.map fun kv => if kv.1 = k then (kv.1, y) else kv) j = (valV kvs j).map fun x => if j = k then y else x
  | [] => rfl
  | p :: r => by
    have ih := valV_map k j y r
    rw [List.map_cons]
    by_cases h : p.1 = k
    · rw [if_pos h]
      by_cases e : p.1 = j
      · rw [valV_pos (p := (p.1, y)) e, valV_pos e, Option.map_some, if_pos (e.symm.trans h)]
      · rw [valV_neg (p := (p.1, y)) e, valV_neg e, ih]
    · rw [if_neg h]
      by_cases e : p.1 = j
      · rw [valV_pos (p := p) e, valV_pos e, Option.map_some, if_neg (fun z => h (e.trans z))]
      · rw [valV_neg (p := p) e, valV_neg e, ih]
theorem valV_snoc (k j : κ) (y : V) : ∀ kvs : List (κ × V), valV kvs k = none -> valV (kvs ++ [(k, y)]) j = if j = k then some y else valV kvs j
  | [], _ => by
    by_cases e : k = j
    · rw [if_pos e.symm]; exact valV_pos (p := (k, y)) e
    · rw [if_neg (fun z => e z.symm)]; exact valV_neg (p := (k, y)) e
  | p :: r, hn => by
    rw [List.cons_append]
    have hk : ¬ p.1 = k := fun z => by rw [valV_pos z] at hn; cases hn
    rw [valV_neg hk] at hn
    have ih := valV_snoc k j y r hn
    by_cases e : p.1 = j
    · rw [valV_pos e, valV_pos e, if_neg (fun z => hk (e.trans z))]
    · rw [valV_neg e, valV_neg e, ih]
theorem valV_put (kvs : List (κ × V)) (k j : κ) (y : V) : valV (putK kvs k y) j = if j = k then some y else valV kvs j := by
  unfold putK
  by_cases a : (kvs.any fun kv => decide (kv.1 = k)) = true
  · rw [if_pos a, valV_map]
    rw [valV_any] at a
    by_cases e : j = k
    · obtain ⟨x, hx⟩ := Option.isSome_iff_exists.mp a
      rw [if_pos e, e, hx, Option.map_some, if_pos rfl]
    · rw [if_neg e]
      cases valV kvs j with
      | none => rfl
      | some x => rw [Option.map_some, if_neg e]
  · rw [if_neg a]
    refine valV_snoc k j y kvs ?_
    rw [valV_any] at a
    cases q : valV kvs k with
    | none => rfl
    | some x => rw [q] at a; exact (a rfl).elim
theorem length_putK (kvs : List (κ × V)) (k : κ) (v : V) : (putK kvs k v).length <= kvs.length + 1 := by
  unfold putK
  split
  · rw [List.length_map]; lia
  · rw [List.length_append, List.length_cons, List.length_nil]; lia
theorem putK_new {kvs : List (κ × V)} {k : κ} (v : V) (h : valV kvs k = none) : putK kvs k v = kvs ++ [(k, v)] := by
  unfold putK
  rw [valV_any, h]
  exact if_neg (by decide)
theorem RelO.isSome_eq {o : Option V} {u : Option Value} (r : RelO o u) : o.isSome = u.isSome := by
  cases o with
  | none => cases u with
    | none => rfl
    | some _ => exact (show False from r).elim
  | some _ => cases u with
    | none => exact (show False from r).elim
    | some _ => rfl
theorem KV.val {kvs : List (κ × V)} {vs : List (κ × Value)} (r : KV kvs vs) (k : κ) : RelO (valV kvs k) (valueAt vs k) := by
  unfold KV at r
  induction r with
  | nil => exact True.intro
  | @cons p q ps qs h t ih =>
    obtain ⟨h1, h2⟩ := h
    by_cases e : p.1 = k
    · have e' : q.1 = k := h1.symm.trans e
      have b : valueAt (q :: qs) k = some q.2 := by simp [valueAt, List.find?_cons, e']
      rw [valV_pos e, b]; exact h2
    · have e' : ¬ q.1 = k := fun z => e (h1.trans z)
      have b : valueAt (q :: qs) k = valueAt qs k := by simp [valueAt, List.find?_cons, e']
      rw [valV_neg e, b]; exact ih
theorem KV.any {kvs : List (κ × V)} {vs : List (κ × Value)} (r : KV kvs vs) (k : κ) : (kvs.any fun kv => decide (kv.1 = k)) = vs.any fun kv => decide (kv.1 = k) := by
  unfold KV at r
  induction r with
  | nil => rfl
  | cons h t ih => rw [List.any_cons, List.any_cons, ih, h.1]
theorem KV.repl {kvs : List (κ × V)} {vs : List (κ × Value)} (r : KV kvs vs) (k : κ) {y : V} {u : Value} (ry : RelV y u) :
    KV (kvs.map fun kv => if kv.1 = k then (kv.1, y) else kv) (vs.map fun kv => if kv.1 = k then (kv.1, u) else kv) := by
  unfold KV at r ⊢
  induction r with
  | nil => exact .nil
  | @cons p q ps qs h t ih =>
    rw [List.map_cons, List.map_cons]
    refine .cons ?_ ih
    obtain ⟨h1, h2⟩ := h
    by_cases e : p.1 = k
    · rw [if_pos e, if_pos (h1.symm.trans e)]; exact ⟨h1, ry⟩
    · rw [if_neg e, if_neg (fun z => e (h1.trans z))]; exact ⟨h1, h2⟩
theorem KV.put {kvs : List (κ × V)} {vs : List (κ × Value)} (r : KV kvs vs) (k : κ) {y : V} {u : Value} (ry : RelV y u) : KV (putK kvs k y) (stored vs k u) := by
  unfold putK stored
  rw [r.any k]
  by_cases e : (vs.any fun kv => decide (kv.1 = k)) = true
  · rw [if_pos e, if_pos e]; exact r.repl k ry
  · rw [if_neg e, if_neg e]; exact Paired.snoc r ⟨rfl, ry⟩
theorem KV.length {kvs : List (κ × V)} {vs : List (κ × Value)} (r : KV kvs vs) : kvs.length = vs.length := Paired.length r
end
theorem kV_is {P : Program} {w : World} {k : Key} {u : Value} (r : RelV (kV k) u) : (mixKind P w).is k u = true := by
  cases k with
  | inl i => obtain ⟨t, e⟩ := (show ∃ t, u = Value.int i t from r); subst e; exact mixKind_int P w i t
  | inr x => obtain ⟨t, e⟩ := (show ∃ t, u = Value.str x t from r); subst e; exact mixKind_str P w x t
theorem items_are {P : Program} {w : World} : ∀ {ks : List Key} {us : List Value}, Vals (ks.map kV) us -> ItemsAre (mixKind P w) ks us
  | [], _, r => by rw [List.map_nil] at r; cases r; exact .nil
  | k :: ks, _, r => by
    rw [List.map_cons] at r
    cases r with
    | cons h t => exact .cons (kV_is h) (items_are t)
abbrev KT (H : Hp) : List (List Key × V) -> List (List Key × Addr × Value) -> Prop := Paired fun p q => p.1 = q.1 /\ H q.2.1 = some (.tup (p.1.map kV)) /\ RelV p.2 q.2.2
theorem KT.val {H : Hp} {kvs : List (List Key × V)} {xs : List (List Key × Addr × Value)} (r : KT H kvs xs) (k : List Key) : RelO (valV kvs k) ((atKey xs k).map (·.2)) := by
  induction r with
  | nil => exact True.intro
  | @cons p q ps qs h t ih =>
    obtain ⟨h1, _, h2⟩ := h
    by_cases e : p.1 = k
    · have e' : q.1 = k := h1.symm.trans e
      have b : atKey (q :: qs) k = some q.2 := by simp [atKey, List.find?_cons, e']
      rw [valV_pos e, b]; exact h2
    · have e' : ¬ q.1 = k := fun z => e (h1.trans z)
      have b : atKey (q :: qs) k = atKey qs k := by simp [atKey, List.find?_cons, e']
      rw [valV_neg e, b]; exact ih
theorem KT.repl {H : Hp} {kvs : List (List Key × V)} {xs : List (List Key × Addr × Value)} (r : KT H kvs xs) (k : List Key) {y : V} {u : Value} (ry : RelV y u) :
    KT H (kvs.map fun kv => if kv.1 = k then (kv.1, y) else kv) (xs.map (putAt k u)) := by
  induction r with
  | nil => exact .nil
  | @cons p q ps qs h t ih =>
    rw [List.map_cons, List.map_cons]
    refine .cons ?_ ih
    obtain ⟨h1, h2, h3⟩ := h
    unfold putAt
    by_cases e : p.1 = k
    · rw [if_pos e, if_pos (h1.symm.trans e)]; exact ⟨h1, h2, ry⟩
    · rw [if_neg e, if_neg (fun z => e (h1.trans z))]; exact ⟨h1, h2, h3⟩
theorem KT.put {H : Hp} {kvs : List (List Key × V)} {xs : List (List Key × Addr × Value)} (r : KT H kvs xs) (k : List Key) {b : Addr} {y : V} {u : Value} (hb : H b = some (.tup (k.map kV))) (ry : RelV y u) :
    KT H (putK kvs k y) (storedH xs k b u) := by
  have e : (kvs.any fun kv => decide (kv.1 = k)) = (atKey xs k).isSome := by
    rw [valV_any, (r.val k).isSome_eq, Option.isSome_map]
  unfold putK storedH
  rw [e]
  by_cases q : (atKey xs k).isSome = true
  · rw [if_pos q, if_pos q]; exact r.repl k ry
  · rw [if_neg q, if_neg q]; exact Paired.snoc r ⟨rfl, hb, ry⟩
theorem KT.keeps {H H' : Hp} {kvs : List (List Key × V)} {xs : List (List Key × Addr × Value)} (r : KT H kvs xs) (ht : ∀ b ys, H b = some (.tup ys) -> H' b = some (.tup ys)) : KT H' kvs xs :=
  Paired.mapP r fun _ _ z => ⟨z.1, ht _ _ z.2.1, z.2.2⟩
section
variable {P : Program} {w : World} {H : Hp} {h : Heap} {a : Addr}
theorem rd_of {u : HO} (ok : HOk P w H h) (e : Rd H a u) : ObjOk P w H h a u := e.ok ok
theorem dk_rd {kvs : List (Key × V)} (ok : HOk P w H h) (e : Rd H a (.dK kvs)) : kvs.length <= sizeLine /\ (a == sysModules) = false /\ ∃ vs, KV kvs vs /\ h.DictOf (mixKind P w) a vs :=
  show ObjOk P w H h a (.dK kvs) from rd_of ok e
theorem dk_of {kvs : List (Key × V)} (ok : HOk P w H h) (e : H a = some (.dK kvs)) : kvs.length <= sizeLine /\ (a == sysModules) = false /\ ∃ vs, KV kvs vs /\ h.DictOf (mixKind P w) a vs := dk_rd ok (.inl e)
theorem key_of {ks : List Key} (ok : HOk P w H h) (e : H a = some (.tup (ks.map kV))) : (tupleKind (mixKind P w)).is h ks a := by
  obtain ⟨_, its, r, o, h1, h2, n, h3⟩ := (show ObjOk P w H h a (.tup (ks.map kV)) from ok a _ e)
  exact ⟨o, its.toArray, n, h1, h2, h3, by simpa using items_are r⟩
theorem dt_rd {kvs : List (List Key × V)} (ok : HOk P w H h) (e : Rd H a (.dT kvs)) : kvs.length <= sizeLine /\ (a == sysModules) = false /\
    ∃ xs, KT H kvs xs /\ h.DictOfH (tupleKind (mixKind P w)) a xs := by
  obtain ⟨z, y, xs, r, o, es, ep, h1, h2, h3, h4, h5⟩ := (show ObjOk P w H h a (.dT kvs) from rd_of ok e)
  refine ⟨z, y, xs, r, o, es, ep, h1, h2, h3, h4, fun x hx => ?_, h5⟩
  have all : ∀ {l : List (List Key × V)} {m : List (List Key × Addr × Value)}, KT H l m -> ∀ x ∈ m, (tupleKind (mixKind P w)).is h x.1 x.2.1 := by
    intro l m q
    induction q with
    | nil => intro x hx; exact nomatch hx
    | @cons p q ps qs hq t ih =>
      intro x hx
      rcases List.mem_cons.mp hx with e | hx
      · subst e
        exact key_of ok (by rw [<- hq.1]; exact hq.2.1)
      · exact ih x hx
  exact all r x hx
theorem dt_of {kvs : List (List Key × V)} (ok : HOk P w H h) (e : H a = some (.dT kvs)) : kvs.length <= sizeLine /\ (a == sysModules) = false /\
    ∃ xs, KT H kvs xs /\ h.DictOfH (tupleKind (mixKind P w)) a xs := dt_rd ok (.inl e)
end
def DGet (H : Hp) (a : Addr) (y : V) (r : Option V) : Prop :=
  (∃ kvs k, Rd H a (.dK kvs) /\ y = kV k /\ r = valV kvs k) \/ ∃ kvs k b, Rd H a (.dT kvs) /\ y = .ref b /\ H b = some (.tup (k.map kV)) /\ r = valV kvs k
def DPut (H : Hp) (a : Addr) (y v : V) (H' : Hp) : Prop :=
  (∃ kvs k, H a = some (.dK kvs) /\ y = kV k /\ kvs.length < sizeLine /\ H' = upd H a (.dK (putK kvs k v))) \/
  ∃ kvs k b, H a = some (.dT kvs) /\ y = .ref b /\ H b = some (.tup (k.map kV)) /\ kvs.length < sizeLine /\ H' = upd H a (.dT (putK kvs k v))
theorem DGet.k {H : Hp} {a : Addr} {kvs : List (Key × V)} {k : Key} (e : H a = some (.dK kvs)) : DGet H a (kV k) (valV kvs k) := .inl ⟨kvs, k, .inl e, rfl, rfl⟩
theorem DPut.k {H : Hp} {a : Addr} {kvs : List (Key × V)} {k : Key} {v : V} (e : H a = some (.dK kvs)) (hl : kvs.length < sizeLine) : DPut H a (kV k) v (upd H a (.dK (putK kvs k v))) := .inl ⟨kvs, k, e, rfl, hl, rfl⟩
section
variable {X : Cx} {pins : List (Addr × Obj)} {σ : St} {H : Hp} {s : Shared} {a : Addr} {y v : V} {u r : Value} {o : Option V} {A : Around} {E : Value -> Shared -> Prop}
theorem Inv.big (I : Inv X pins σ H s) : sysModules < s.heap.objs.size := by
  have h : mainGlobals < s.heap.objs.size := (I.mod.glob.keeps I.bk).lt
  exact Nat.lt_trans (by decide) h
theorem d_getItem {Q : Value -> Shared -> Prop} (hu : A.units + 1 < cLine) (I : Inv X pins σ H s) (g : DGet H a y (some v)) (ry : RelV y u) (h : ∀ w' s', Inv X pins σ H s' -> RelV v w' -> Q w' s') :
    wpAny (model X.prog X.w) A (getItem (.ref a) u) Q E s := by
  rcases g with ⟨kvs, k, e, ey, l⟩ | ⟨kvs, k, b, e, ey, eb, l⟩
  · subst ey
    obtain ⟨z, hd, vs, rel, dd⟩ := dk_rd I.hok e
    obtain ⟨w', hw, rw'⟩ := RelO.some_of (v := v) (o := valueAt vs k) (by rw [l]; exact rel.val k)
    exact wpAny_getItem_of (kV_is ry) dd.mapOf hw (h w' _ (I.tok _) rw')
  · subst ey
    cases (show u = Value.ref b from ry)
    obtain ⟨z, hd, xs, rel, dd⟩ := dt_rd I.hok e
    obtain ⟨w', hw, rw'⟩ := RelO.some_of (v := v) (o := (atKey xs k).map (·.2)) (by rw [l]; exact rel.val k)
    obtain ⟨p, hp, hp2⟩ := Option.map_eq_some_iff.mp hw
    refine wpAny_getItem_heap (tupleKind_room_in1 hu) (key_of I.hok eb) dd hp ?_
    rw [hp2]
    exact h w' _ (I.tok _) rw'
theorem d_notIn {Q : Value -> Shared -> Prop} (hu : A.units + 1 < cLine) (I : Inv X pins σ H s) (g : DGet H a y o) (ry : RelV y u) (h : ∀ s', Inv X pins σ H s' -> Q (.bool (!o.isSome)) s') :
    wpAny (model X.prog X.w) A (compareOp .NotIn u (.ref a)) Q E s := by
  rcases g with ⟨kvs, k, e, ey, l⟩ | ⟨kvs, k, b, e, ey, eb, l⟩
  · subst ey
    obtain ⟨z, hd, vs, rel, dd⟩ := dk_rd I.hok e
    refine wpAny_notIn_of (kV_is ry) hd dd.mapOf ?_
    rw [<- (rel.val k).isSome_eq, <- l]
    exact h _ (I.tok _)
  · subst ey
    cases (show u = Value.ref b from ry)
    obtain ⟨z, hd, xs, rel, dd⟩ := dt_rd I.hok e
    refine wpAny_notIn_heap (tupleKind_room_in1 hu) (key_of I.hok eb) hd dd ?_
    have q := (rel.val k).isSome_eq
    rw [Option.isSome_map] at q
    rw [<- q, <- l]
    exact h _ (I.tok _)
theorem d_write {h' : Heap} {t' : Nat} {ob : HO} (I : Inv X pins σ H s) (mu : Mut (H a)) (hs : Heap.SameBut a s.heap h') (he : ∃ q, h'.get? a = some q) (new : ObjOk X.prog X.w (upd H a ob) h' a ob) :
    Inv X pins σ (upd H a ob) { s with heap := h', toks := t' } :=
  I.write (x := a) (e := a) mu (.inl rfl) (fun b q hb z => (hs.2 b hb).trans z) he new
theorem dk_new {P : Program} {w : World} {H' : Hp} {h' : Heap} {kvs : List (Key × V)} {vs : List (Key × Value)} (z : kvs.length <= sizeLine) (hd : (a == sysModules) = false) (rel : KV kvs vs) (dd : h'.DictOf (mixKind P w) a vs) :
    ObjOk P w H' h' a (.dK kvs) := ⟨z, hd, vs, rel, dd⟩
theorem d_setItem {H' : Hp} {Q : Unit -> Shared -> Prop} (hu : A.units + 1 < cLine) (I : Inv X pins σ H s) (g : DPut H a y v H') (ry : RelV y u) (rv : RelV v r) (h : ∀ s', Inv X pins σ H' s' -> Q () s') :
    wpAny (model X.prog X.w) A (setItem (.ref a) u r) Q E s := by
  rcases g with ⟨kvs, k, e, ey, l, eH⟩ | ⟨kvs, k, b, e, ey, eb, l, eH⟩
  · subst ey eH
    obtain ⟨z, hd, vs, rel, dd⟩ := dk_of I.hok e
    have hz : vs.length <= sizeLine := by rw [<- rel.length]; exact z
    have hl : (putK kvs k v).length <= sizeLine := by have := length_putK kvs k v; lia
    refine wpAny_setItem_pairs (hsz := hz) (kV_is ry) dd fun h' dd' hs => h _ ?_
    have he : ∃ q, h'.get? a = some q := let ⟨q, _, _, hq, _⟩ := dd'; ⟨q, hq⟩
    exact d_write I (by rw [e]; exact True.intro) hs he (dk_new hl hd (rel.put k rv) dd')
  · subst ey eH
    cases (show u = Value.ref b from ry)
    obtain ⟨z, hd, xs, rel, dd⟩ := dt_of I.hok e
    have hz : xs.length <= sizeLine := by rw [<- Paired.length rel]; exact z
    have hl : (putK kvs k v).length <= sizeLine := by have := length_putK kvs k v; lia
    refine wpAny_setItem_heap (hsz := hz) (tupleKind_room_in1 hu) (key_of I.hok eb) dd fun h' dd' hs => h _ ?_
    obtain ⟨q, es, ep, hq, h2, h3, h4, _, h5⟩ := dd'
    refine d_write I (by rw [e]; exact True.intro) hs ⟨q, hq⟩ ⟨hl, hd, _, (rel.put k eb rv).keeps fun c ys ec => ?_, q, es, ep, hq, h2, h3, h4, h5⟩
    rw [upd_ne (ne_of ec e (fun z => nomatch z))]
    exact ec
end
section
variable {X : Cx} {pins : List (Addr × Obj)} {σ : St} {H : Hp} {s : Shared} {a : Addr} {kvs : List (Key × V)} {k : Key} {u : Value} {A : Around} {E : Value -> Shared -> Prop}
theorem d_len {Q : Value -> Shared -> Prop} (I : Inv X pins σ H s) (e : Rd H a (.dK kvs)) (h : ∀ t s', Inv X pins σ H s' -> Q (.int kvs.length t) s') : wpAny (model X.prog X.w) A (call (.builtin "len") [.ref a]) Q E s := by
  obtain ⟨z, hd, vs, rel, dd⟩ := dk_rd I.hok e
  refine call_len_dict hd dd (by rw [<- rel.length]; rw [sizeLine_eq] at z; lia) ?_
  rw [<- rel.length]
  exact h _ _ (I.tok _)
end
def NoSl (i : Expr) : Prop := ∀ ov iv, subscripted i false ov iv = operate [ov, iv] (getItem ov iv)
theorem subD_of {prog : Program} {w : World} {A : Around} {E : Value -> Shared -> Prop} {s : Shared} {env : Env} {value slice : Expr} {pos : Pos} {T id : String} {Q : Value -> Shared -> Prop}
    (hl : typeLookup (.type T) "__getitem__" = pure (some (.builtin id))) (hs : NoSl slice)
    (h : wpAny (model prog w) A (eval value env) (fun o s₁ => wpAny (model prog w) A (eval slice env) (fun i s₂ => s₂.TypeIs o T /\ wpAny (model prog w) A (getItem o i) Q E s₂) E s₁) E s) :
    wpAny (model prog w) A (eval (.Subscript value slice pos) env) Q E s := by
  refine Subscript_ (wpAny_mono h (fun o s₁ h₁ => wpAny_mono h₁ (fun i s₂ h₂ => ?_) fun _ _ x => x) fun _ _ x => x)
  obtain ⟨hT, h₂⟩ := h₂
  unfold subscriptTail
  refine wpAny_bind ?_
  rw [getitemInPython_of_ne hT.not_modules]
  refine wpAny_bind (wpAny_specialOf hT hl ?_)
  have fin : wpAny (model prog w) A (subscripted slice false o i) (fun r s₃ => wpAny (model prog w) A (letTemporaryGo value o r >>= fun _ => pure r) Q E s₃) E s₂ := by
    rw [hs o i]
    exact wpAny_operating (wpAny_mono h₂ (fun r s₃ h₃ => wpAny_bind (wpAny_letTemporaryGo (wpAny_pure h₃))) fun _ _ x => x)
  first
    | exact wpAny_pure (wpAny_bind fin)
    | exact wpAny_bind (wpAny_pure (wpAny_bind fin))
    | exact wpAny_bind fin
theorem dict_typeIs {X : Cx} {pins : List (Addr × Obj)} {σ : St} {H : Hp} {s : Shared} {a : Addr} {y : V} {o : Option V} (I : Inv X pins σ H s) (g : DGet H a y o) : s.TypeIs (.ref a) "dict" := by
  rcases g with ⟨kvs, k, e, _, _⟩ | ⟨kvs, k, b, e, _, _, _⟩
  · obtain ⟨_, _, vs, _, dd⟩ := dk_rd I.hok e
    exact dd.typeIs
  · obtain ⟨_, _, xs, _, dd⟩ := dt_rd I.hok e
    exact dd.typeIs
def tDGet (td ty : TE) : TE := fun σ H Q => td σ H fun x H1 => ty σ H1 fun y H2 => ∃ a v, x = .ref a /\ DGet H2 a y (some v) /\ Q v H2
def tDNotIn (ty td : TE) : TE := fun σ H Q => ty σ H fun y H1 => td σ H1 fun x H2 => ∃ a o, x = .ref a /\ DGet H2 a y o /\ Q (.bl (!o.isSome)) H2
def sDPut (td ty tv : TE) : TS := fun D σ H => tv σ H fun v H1 => td σ H1 fun x H2 => ty σ H2 fun y H3 => ∃ a H4, x = .ref a /\ DPut H3 a y v H4 /\ D.nx σ H4
section
variable {X : Cx} {o i e value : Expr} {pos pos' tpos : Pos} {td ty tv : TE}
theorem pe_dget (hu : X.A.units + 1 < cLine) (ho : PE X o td) (hi : PE X i ty) (hs : NoSl i) : PE X (.Subscript o i pos) (tDGet td ty) := by
  intro pins s σ H Q I h
  refine subD_of PySem.F.slot_dict_getitem.lookup hs (thn (ho pins s σ H _ I h) fun u s1 ⟨x, H1, I1, rx, q1⟩ => thn (hi pins s1 σ H1 _ I1 q1) fun iv s2 ⟨y, H2, I2, ry, a, v, ex, g, q2⟩ => ?_)
  subst ex
  obtain rfl : u = Value.ref a := rx
  exact ⟨dict_typeIs I2 g, d_getItem hu I2 g ry fun w' s3 I3 rw' => ⟨v, H2, I3, rw', q2⟩⟩
theorem pc_dnotin (hu : X.A.units + 1 < cLine) (hi : PE X i ty) (ho : PE X o td) : PC X .NotIn i o (tDNotIn ty td) := by
  intro pins s σ H Q I h
  refine thn (hi pins s σ H _ I h) fun iv s1 ⟨y, H1, I1, ry, q1⟩ => thn (ho pins s1 σ H1 _ I1 q1) fun u s2 ⟨x, H2, I2, rx, a, ov, ex, g, q2⟩ => ?_
  subst ex
  obtain rfl : u = Value.ref a := rx
  exact d_notIn hu I2 g ry fun s3 I3 => ⟨.bl (!ov.isSome), H2, I3, rfl, q2⟩
theorem ps_dput (hu : X.A.units + 1 < cLine) (ho : PE X o td) (hi : PE X i ty) (hv : PE X value tv) (hs : swapsWith value (some (.Subscript o i pos')) pos.line X.env = pure false) :
    PS X (.Assign [.Subscript o i pos'] value pos) (sDPut td ty tv) := by
  intro pins s σ H D I h
  refine wpAny_Assign_Subscript (thn (hv pins s σ H _ I h) fun r s1 ⟨v, H1, I1, rv, q1⟩ => thn (ho pins s1 σ H1 _ I1 q1) fun u s2 ⟨x, H2, I2, rx, q2⟩ => thn (hi pins s2 σ H2 _ I2 q2) fun iv s3 ⟨y, H3, I3, ry, a, H4, ex, g, q3⟩ => ?_) hs
  subst ex
  obtain rfl : u = Value.ref a := rx
  exact d_setItem hu I3 g ry rv fun s4 I4 => ⟨σ, H4, I4, q3⟩
end
theorem dk_empty {P : Program} {w : World} {H : Hp} (h : Heap) (hb : sysModules < h.objs.size) : ObjOk P w H (h.push { cls := .type "dict", data := .dict #[] }) h.objs.size (.dK []) :=
  ⟨Nat.zero_le _, beq_eq_false_iff_ne.mpr (Ne.symm (Nat.ne_of_lt hb)), [], .nil, Heap.DictOf.new h⟩
def tDNewK : TE := fun _ H Q => ∀ p, H p = none -> Q (.ref p) (upd H p (.dK []))
section
variable {X : Cx} {pos : Pos}
theorem pe_dnewK : PE X (.Dict [] [] pos) tDNewK := fun pins s σ H Q I h =>
  wpAny_Dict_empty ⟨.ref s.heap.objs.size, _, I.laid (a := s.heap.objs.size) (o := .dK []) (t' := s.toks) (fun _ _ q => Heap.get?_push_of_some _ q) (Nat.le_refl _) (dk_empty s.heap I.big), rfl, h _ (I.hok.fresh (Nat.le_refl _))⟩
end
def tPairs : List (TE × TE) -> St -> Hp -> (List (V × V) -> Hp -> Prop) -> Prop
  | [], _, H, Q => Q [] H
  | (tk, tv) :: r, σ, H, Q => tk σ H fun x H1 => tv σ H1 fun y H2 => tPairs r σ H2 fun ps H3 => Q ((x, y) :: ps) H3
abbrev VV : List (V × V) -> List (Value × Value) -> Prop := Paired fun p q => RelV p.1 q.1 /\ RelV p.2 q.2
def PPs (X : Cx) (pos : Pos) (keys : List (Option Expr)) (values : List Expr) (trs : List (TE × TE)) : Prop :=
  ∀ (pins : List (Addr × Obj)) (s : Shared) (σ : St) (H : Hp) (Q : List (V × V) -> Hp -> Prop), Inv X pins σ H s -> tPairs trs σ H Q ->
    wpAny (model X.prog X.w) X.A (evalPairs (pairTrees keys values X.env pos)) (fun vs s' => ∃ ps H', Inv X pins σ H' s' /\ VV ps vs /\ Q ps H') X.xe s
theorem pps_nil {X : Cx} {pos : Pos} : PPs X pos [] [] [] := fun pins s σ H Q I h => pairTrees_nil_walk ⟨[], H, I, .nil, h⟩
theorem pps_cons {X : Cx} {pos : Pos} {k v : Expr} {ks : List (Option Expr)} {vs : List Expr} {tk tv : TE} {trs : List (TE × TE)} (hk : PE X k tk) (hv : PE X v tv) (hr : PPs X pos ks vs trs) :
    PPs X pos (some k :: ks) (v :: vs) ((tk, tv) :: trs) := fun pins s σ H Q I h =>
  pairTrees_cons_walk (thn (hk pins s σ H _ I h) fun u s1 ⟨x, H1, I1, rx, q1⟩ => thn (hv pins s1 σ H1 _ I1 q1) fun w2 s2 ⟨y, H2, I2, ry, q2⟩ =>
    thn (hr pins s2 σ H2 _ I2 q2) fun ws s3 ⟨ps, H3, I3, rel, q3⟩ => ⟨(x, y) :: ps, H3, I3, .cons ⟨rx, ry⟩ rel, q3⟩)
def mergeK (kvs more : List (Key × V)) : List (Key × V) := more.foldl (fun acc kv => putK acc kv.1 kv.2) kvs
theorem KV.merge : ∀ {more : List (Key × V)} {rs : List (Key × Value)} {kvs : List (Key × V)} {vs : List (Key × Value)}, KV more rs -> KV kvs vs -> KV (mergeK kvs more) (merged vs rs) := by
  intro more rs kvs vs r
  unfold KV at r
  induction r generalizing kvs vs with
  | nil => intro q; exact q
  | @cons p q ps qs h t ih =>
    intro r0
    have e : KV (putK kvs p.1 p.2) (stored vs q.1 q.2) := by
      have := r0.put p.1 h.2
      rw [<- h.1]; exact this
    exact ih e
theorem length_mergeK : ∀ (more kvs : List (Key × V)), (mergeK kvs more).length <= kvs.length + more.length
  | [], kvs => by show kvs.length <= kvs.length + 0; lia
  | p :: r, kvs => by
    have h1 := length_mergeK r (putK kvs p.1 p.2)
    have h2 := length_putK kvs p.1 p.2
    show (mergeK (putK kvs p.1 p.2) r).length <= _
    rw [List.length_cons]; lia
theorem carries_of {P : Program} {w : World} : ∀ {kvs : List (Key × V)} {ws : List (Value × Value)}, VV (kvs.map fun kv => (kV kv.1, kv.2)) ws -> ∃ rs, Carries (mixKind P w) ws rs /\ KV kvs rs
  | [], _, r => by rw [List.map_nil] at r; cases r; exact ⟨[], True.intro, .nil⟩
  | p :: kvs, _, r => by
    rw [List.map_cons] at r
    cases r with
    | @cons a b as bs h t =>
      obtain ⟨rs, c, q⟩ := carries_of (P := P) (w := w) t
      obtain ⟨b1, b2⟩ := b
      exact ⟨(p.1, b2) :: rs, ⟨kV_is h.1, rfl, c⟩, .cons ⟨rfl, h.2⟩ q⟩
def tDisp (trs : List (TE × TE)) : TE := fun σ H Q => ∀ p, H p = none -> tPairs trs σ (upd H p (.dK [])) fun ps H2 => H2 p = some (.dK []) /\ ∃ kvs : List (Key × V), ps = kvs.map (fun kv => (kV kv.1, kv.2)) /\ kvs.length <= 15 /\ Q (.ref p) (upd H2 p (.dK (mergeK [] kvs)))
theorem pe_disp {X : Cx} {pos : Pos} {keys : List (Option Expr)} {values : List Expr} {trs : List (TE × TE)} (h : PPs X pos keys values trs) (hall : keys.all (·.isSome) = true) (hl : keys.length = values.length) (h0 : keys ≠ [])
    (h15 : keys.length <= 15) : PE X (.Dict keys values pos) (tDisp trs) := by
  intro pins s σ H Q I q
  have hn := I.hok.fresh (Nat.le_refl s.heap.objs.size)
  have I1 := I.laid (a := s.heap.objs.size) (o := .dK []) (h' := s.heap.push { cls := .type "dict", data := .dict #[] }) (t' := s.toks) (fun _ _ q => Heap.get?_push_of_some _ q) (Nat.le_refl _) (dk_empty s.heap I.big)
  refine wpAny_Dict_walk (knd := mixKind X.prog X.w) hall hl h0 h15 (thn (h pins _ σ _ _ I1 (q _ hn)) fun ws s2 ⟨ps, H2, I2, rel, e, kvs, ep, lk, q2⟩ => ?_)
  subst ep
  obtain ⟨rs, c, rk⟩ := carries_of (P := X.prog) (w := X.w) rel
  obtain ⟨z, hd, vs0, r0, dd⟩ := dk_of I2.hok e
  cases r0
  refine ⟨rs, c, dd, fun h' dd' hs => ⟨.ref s.heap.objs.size, _, ?_, rfl, q2⟩⟩
  have hz : (mergeK [] kvs).length <= sizeLine := by
    have h1 := length_mergeK kvs []
    rw [List.length_nil] at h1
    rw [sizeLine_eq]; lia
  have he : ∃ q, h'.get? s.heap.objs.size = some q := let ⟨q, _, _, hq, _⟩ := dd'; ⟨q, hq⟩
  exact d_write I2 (by rw [e]; exact True.intro) hs he (dk_new hz hd (rk.merge .nil) dd')
section
variable {X : Cx} {pins : List (Addr × Obj)} {σ : St} {H : Hp} {s : Shared} {a : Addr} {y d : V} {u r : Value} {o : Option V} {A : Around} {E : Value -> Shared -> Prop}
end
section
variable {X : Cx} {o e f : Expr} {apos cpos : Pos} {td ty tx : TE}
end
section
variable {X : Cx} {pins : List (Addr × Obj)} {σ : St} {H : Hp} {s : Shared} {a : Addr} {kvs : List (Key × V)} {A : Around} {E : Value -> Shared -> Prop}
end
section
variable {X : Cx} {pins : List (Addr × Obj)} {σ : St} {H : Hp} {s : Shared} {a : Addr} {y : V} {u : Value} {A : Around} {E : Value -> Shared -> Prop}
end
section
variable {prog : Program} {w : World} {A : Around} {E : Value -> Shared -> Prop} {s : Shared} {it d v : Addr} {i ep : Nat} {es : Array DictEntry} {o : Obj}
end
abbrev TTab := List (List Key × V)
section
variable {X : Cx} {pins : List (Addr × Obj)} {σ : St} {H : Hp} {s : Shared} {d : Addr} {kvs : TTab}
end
section
variable {X : Cx}
end
end L2
namespace L2
open PySem PySem.W PyProof.Rows
section
variable {lt : Nat -> Nat -> Bool} {N : Nat}
end
end L2
namespace L2
open PySem PySem.W PyProof.Rows
section
variable {prog : Program} {w : World} {A : Around} {E : Value -> Shared -> Prop} {s : Shared}
end
end L2
namespace L2
open PySem PySem.W PyProof.Rows
section
variable {prog : Program} {w : World} {A : Around} {E : Value -> Shared -> Prop} {s : Shared}
end
section
variable {X : Cx}
end
end L2
namespace L2
open PySem PySem.Spec PyProof.Rows
theorem for_seq {k : Kd} {K : PySem.W.Frag} {a : Addr} {xs : List V} {g : TG} {tb : TS} {D : Ends} {σ : St} {H : Hp} (Pv : Nat -> St -> Hp -> Prop) (h0 : Pv 0 σ H) (hl : ∀ i σ H, i <= xs.length -> Pv i σ H -> SqK k K H a xs)
    (hs : ∀ i x σ H, xs[i]? = some x -> Pv i σ H -> g x σ H fun σ2 H2 => tb { D with nx := Pv (i + 1), ct := Pv (i + 1), bk := D.nx } σ2 H2) (hd : ∀ σ H, Pv xs.length σ H -> D.nx σ H) :
    ∃ W : Nat -> Nat -> St -> Hp -> Prop, (∃ m, W 0 m σ H) /\ ∀ i m σ H, W i m σ H ->
      ((ItK k K a).stop i H /\ D.nx σ H) \/ ((ItK k K a).go i H /\ ∃ N : St -> Hp -> Prop, (∀ σ' H', N σ' H' -> ∃ m', m' < m /\ W (i + 1) m' σ' H') /\ ∀ x H', (ItK k K a).yld i H x H' -> g x σ H' fun σ2 H2 => tb { D with nx := N, ct := N, bk := D.nx } σ2 H2) := by
  cases k with
  | l => exact for_list Pv h0 hl hs hd
  | t => exact for_tup Pv h0 hl hs hd
section
variable {X : Cx}
end
section
open PySem.SeqAt
open PySem.AutoSeq1 (wpAny_loadPart')
open PySem.MeetsSeq PySem.MeetsSeq2 PySem.MeetsSeq3
end
section
variable {X : Cx}
end
section
variable {prog : Program} {w : World} {A : Around} {E : Value -> Shared -> Prop} {s : Shared} {it l : Addr} {its : Array Value}
end
section
variable {X : Cx}
end
def cE (e : Int × Value) : Int × Value := (e.1, .int e.1 0)
def addT (st : Array (Int × Value) × SetTable) (n : Int) : Array (Int × Value) × SetTable :=
  let L := layNew st.2 st.1 n (.int n 0)
  if (!L.2.2.1 && L.2.1.tooFull) = true then ((relayAll L.2.1 L.1 (SetTable.grown L.1.size)).1, (relayAll L.2.1 L.1 (SetTable.grown L.1.size)).2.1) else (L.1, L.2.1)
def tabOf (led : Bool) (ns : List Int) : Array (Int × Value) × SetTable := ns.foldl addT (#[], SetTable.fresh 0 0 led)
theorem insertAt_map {α β : Type} (f : α -> β) (xs : Array α) (p : Nat) (x : α) : (SetTable.insertAt xs p x).map f = SetTable.insertAt (xs.map f) p (f x) := by
  unfold SetTable.insertAt
  simp [Array.map_append, Array.map_push, Array.map_extract]
theorem layNew_c (t : SetTable) (es : Array (Int × Value)) (h : Int) (x : Value) : layNew t (es.map cE) h (.int h 0) = ((layNew t es h x).1.map cE, (layNew t es h x).2) := by
  unfold layNew
  cases t.freeSlot h with
  | none =>
    dsimp only
    rw [Array.map_push, Array.size_map]
    rfl
  | some r =>
    obtain ⟨slot, wd⟩ := r
    dsimp only
    have e : SetTable.insertAt (es.map cE) (t.put slot).2 (h, Value.int h 0) = (SetTable.insertAt es (t.put slot).2 (h, x)).map cE := by rw [insertAt_map]; rfl
    rw [e, Array.size_map]
theorem relayAll_c (t : SetTable) (es : Array (Int × Value)) (wd : Nat) : relayAll t (es.map cE) wd = ((relayAll t es wd).1.map cE, (relayAll t es wd).2) := by
  unfold relayAll
  have e1 : (es.map cE).map (·.1) = es.map (·.1) := by rw [Array.map_map]; rfl
  rw [e1]
  cases t.relaid (es.map (·.1)) wd with
  | none => dsimp only; rw [Array.size_map]
  | some r =>
    obtain ⟨t', order⟩ := r
    dsimp only
    have e2 : order.filterMap ((es.map cE)[·]?) = (order.filterMap (es[·]?)).map cE := by
      rw [Array.map_filterMap]
      congr 1
      funext i
      rw [Array.getElem?_map]
    rw [e2, Array.size_map, Array.size_map]
    split <;> rfl
theorem tab_snoc (led : Bool) (ns : List Int) (n : Int) : tabOf led (ns ++ [n]) = addT (tabOf led ns) n := by unfold tabOf; rw [List.foldl_append]; rfl
section
variable {prog : Program} {w : World} {A : Around} {E : Value -> Shared -> Prop} {s : Shared} {a : Addr} {led : Bool} {ns : List Int}
end
section
variable {prog : Program} {w : World} {A : Around} {R : Result -> Shared -> Prop} {I : Addr} {fp wr : List Addr} {G : Array GenState -> Array GenState -> Prop} {n : Nat} {P : Nat -> Value -> Prop} {St : Nat -> Shared -> Prop}
end
section
variable {prog : Program} {w : World} {A : Around} {E : Value -> Shared -> Prop} {s : Shared}
theorem code_new_led (a : Value) {Q₁ : Value -> Shared -> Prop}
    (h : Q₁ (.ref s.heap.objs.size) { s with heap := s.heap.push { cls := .type "set", dict := none, data := .set #[] 0 (.fresh 0 0 (!w.params.followText "set-order")) } }) :
    codeAny (model prog w) A (.call (.builtin "set.__new__") ⟨[.type "set", a], []⟩) (wants Q₁ E) s := by
  refine codeAny_of_tree (show wpAny _ A.in1 (do checkBuiltinCall "set.__new__" ⟨[.type "set", a], []⟩; again (.builtin "set.__new__" ⟨[.type "set", a], []⟩)) _ _ s from ?_)
  refine wpAny_bind (wpAny_of_eq (F.newCall_set_1 a) (wpAny_pure ⟨plainId_quiet F.plain_set_new _, codeAny_builtin F.entry_set_new ?_⟩))
  rw [Around.under_plainId F.plain_set_new _]
  unfold Builtin.«set.__new__» Builtin.Frozenset.newClass
  have f1 := sub_set_self
  obtain ⟨hp, g, d, tk, os⟩ := s
  dsimp only
  wp_walk
  refine wpAny_askSetting (wpAny_pure ?_)
  dsimp only
  simp only [newObj]
  exact wpAny_bind (wpAny_alloc (wpAny_pure (wpAny_pure h)))
set_option maxHeartbeats 8000000 in
end
theorem entry_set_iter : entryFor table "set.__iter__" = some Builtin.«frozenset.__iter__» :=
  entryFor_alias (id' := "frozenset.__iter__") (by kernel_rfl) (by first | rfl | decide +kernel) (by decide +kernel) (by kernel_rfl)
theorem slot_si_next : Slot "set_iterator" "__next__" "set_iterator.__next__" :=
  .of (owner := "set_iterator") (n := "__next__") (by rw [typeLookup_type, builtinLookup_eq_fast]; kernel_rfl) (by decide +kernel) (by decide +kernel) (by decide +kernel) (by first | exact .inl (by decide +kernel) | exact .inr (by decide +kernel)) (by rw [isSubtype_type]; kernel_rfl)
theorem entry_si_next : entryFor table "set_iterator.__next__" = some Builtin.«set_iterator.__next__» := entryFor_of_tree (by kernel_rfl)
theorem args_si_next (a : Value) : argsOk "set_iterator.__next__" ⟨[a], []⟩ := by unfold argsOk; kernel_rfl
theorem slot_si_iter : Slot "set_iterator" "__iter__" "set_iterator.__iter__" :=
  .of (owner := "set_iterator") (n := "__iter__") (by rw [typeLookup_type, builtinLookup_eq_fast]; kernel_rfl) (by decide +kernel) (by decide +kernel) (by decide +kernel) (by first | exact .inl (by decide +kernel) | exact .inr (by decide +kernel)) (by rw [isSubtype_type]; kernel_rfl)
theorem args_si_iter (a : Value) : argsOk "set_iterator.__iter__" ⟨[a], []⟩ := by unfold argsOk; kernel_rfl
theorem entry_si_iter : entryFor table "set_iterator.__iter__" = some Builtin.«dict_keyiterator.__iter__» :=
  entryFor_alias (id' := "dict_keyiterator.__iter__") (by kernel_rfl) (by first | rfl | decide +kernel | (unfold String.splitOn; simp +decide [String.splitOnAux])) (by decide +kernel) (by kernel_rfl)
abbrev setIt (slot i : Int) (a : Addr) (n ep : Nat) : Obj := { cls := .type "set_iterator", data := .fields #[rawInt slot, rawInt i, .ref a, rawInt n, rawInt ep] }
def slotAt (t : SetTable) (i : Nat) : Nat := if i = 0 then 0 else t.place.getD (i - 1) 0 + 1
def goesOn (t : SetTable) (n : Nat) : Bool := t.plain && t.led && (t.place.size == n) && (List.range (n + 1)).all fun i => SetTable.below t.place (slotAt t i) == i
section
variable {prog : Program} {w : World} {A : Around} {E : Value -> Shared -> Prop} {s : Shared} {it a : Addr} {o : Obj} {es : Array (Int × Value)} {ep i : Nat} {t : SetTable} {slot : Nat}
theorem byText_ {Q : Bool -> Shared -> Prop} (h : Q (w.params.followText "set-order") s) : wpAny (model prog w) A setsByText Q E s := by
  unfold setsByText
  exact wpAny_bind (wpAny_askSetting (wpAny_pure h))
theorem drawn_no {Q : Bool -> Shared -> Prop} (ho : s.heap.get? a = some o) (hd : o.data = .set es ep t) (hf : t.fits es.size = true) (g : w.params.followText "set-order" = false -> goesOn t es.size = true) (h : Q false s) : wpAny (model prog w) A (setDrawn a) Q E s := by
  unfold setDrawn
  refine wpAny_bind (wpAny_setState_of ho hd hf (wpAny_bind (byText_ (wpAny_pure ?_))))
  cases e : w.params.followText "set-order" with
  | true => exact h
  | false =>
    have pl : t.plain = true := by
      have := g e
      unfold goesOn at this
      simp only [Bool.and_eq_true] at this
      exact this.1.1.1
    show Q (!false && (!t.plain && decide (es.size > 1))) s
    rw [pl]
    exact h
theorem iter_set {Q : Value -> Shared -> Prop} (ho : s.heap.get? a = some o) (hex : o.ExactSet) (hd : o.data = .set es ep t) (hf : t.fits es.size = true) (g : w.params.followText "set-order" = false -> goesOn t es.size = true)
    (q : Q (.ref s.heap.objs.size) { s with heap := s.heap.push (setIt 0 0 a es.size ep) }) : wpAny (model prog w) A (pyIter (.ref a)) Q E s := by
  have ty : s.TypeIs (.ref a) "set" := ⟨o, ho, hex.1⟩
  refine wpAny_pyIter_slot ty F.slot_set_iter (wpAny_call_entry F.slot_set_iter ty entry_set_iter ?_ (F.args_set_iter_1 _))
  unfold Builtin.«frozenset.__iter__»
  refine wpAny_bind (wpAny_of_eq (a := a) rfl (wpAny_bind ?_))
  unfold Builtin.Frozenset.sizeOf setEntries
  refine wpAny_bind (wpAny_bind (wpAny_setState_of ho hd hf (wpAny_pure (wpAny_pure (wpAny_bind (drawn_no ho hd hf g ?_))))))
  simp only [Bool.false_eq_true, if_false]
  refine wpAny_bind (wpAny_pure (wpAny_bind (wpAny_setEpoch_of ho hd hf (wpAny_bind ?_))))
  unfold newFields
  refine wpAny_newObj_type (wpAny_pure ⟨_, rfl, "set_iterator", _, ⟨_, Heap.get?_push_size _ rfl, rfl⟩, slot_si_next.lookup, ?_⟩) (by size_fits)
  exact q
end
def ordOf (w : World) (a : Addr) (ep : Nat) (es : Array (Int × Value)) : Array (Int × Value) := if w.params.followText "set-order" = true then pickOrder (w.params.setOrder a ep) es else es
theorem goes_at {t : SetTable} {n i : Nat} (h : goesOn t n = true) (hi : i <= n) : t.plain = true /\ t.led = true /\ t.place.size = n /\ SetTable.below t.place (slotAt t i) = i := by
  unfold goesOn at h
  simp only [Bool.and_eq_true, beq_iff_eq, List.all_eq_true] at h
  exact ⟨h.1.1.1, h.1.1.2, h.1.2, h.2 i (List.mem_range.mpr (by omega))⟩
section
variable {prog : Program} {w : World} {A : Around} {E : Value -> Shared -> Prop} {s : Shared} {it a : Addr} {o : Obj} {es : Array (Int × Value)} {ep i : Nat} {t : SetTable} {slot : Nat}
theorem setNext_ {Q : Option (Value × Nat) -> Shared -> Prop} (ho : s.heap.get? a = some o) (hd : o.data = .set es ep t) (hf : t.fits es.size = true) (g : w.params.followText "set-order" = false -> goesOn t es.size = true /\ slot = slotAt t i) (hi : i <= es.size)
    (q : ∀ nx, (w.params.followText "set-order" = false -> i < es.size -> nx = slotAt t (i + 1)) -> Q (((ordOf w a ep es)[i]?).map fun e => (e.2, nx)) s) : wpAny (model prog w) A (setNext a slot i ep) Q E s := by
  unfold setNext
  refine wpAny_bind (wpAny_setState_of ho hd hf (wpAny_bind (byText_ ?_)))
  unfold ordOf at q
  cases e : w.params.followText "set-order" with
  | true =>
    rw [e] at q
    simp only [if_true] at q ⊢
    rw [if_neg (by simp)]
    unfold setWalk
    refine wpAny_bind (wpAny_bind (wpAny_setState_of ho hd hf (wpAny_bind (byText_ ?_))))
    rw [e]
    simp only [if_true]
    refine wpAny_bind (wpAny_askSetting (wpAny_pure (wpAny_pure ?_)))
    exact q slot (fun z => nomatch z)
  | false =>
    obtain ⟨gg, es1⟩ := g e
    obtain ⟨p1, p2, p3, p4⟩ := goes_at gg hi
    rw [e] at q
    simp only [Bool.false_eq_true, if_false] at q ⊢
    refine wpAny_ite_split (fun hab => absurd (show (!t.plain && decide (es.size > 1)) = true from hab) (by rw [p1]; simp)) (fun _ => ?_)
    refine wpAny_bind (show wpAny _ _ (if (!t.led && !es.isEmpty) = true then unsupported "set:maker-not-led" else pure ()) _ _ _ from ?_)
    rw [p2, if_neg (by simp)]
    refine wpAny_pure (wpAny_pure ?_)
    rw [es1, p4]
    by_cases lt : i < es.size
    · have e1 : es[i]? = some es[i] := Array.getElem?_eq_getElem lt
      have e2 : t.place[i]? = some t.place[i] := Array.getElem?_eq_getElem (by omega)
      have e3 : t.place.getD i 0 = t.place[i] := by simp [Array.getD, show i < t.place.size by omega]
      have := q (slotAt t (i + 1)) (fun _ _ => rfl)
      rw [e1] at this ⊢
      rw [e2]
      have e4 : slotAt t (i + 1) = t.place[i] + 1 := by
        unfold slotAt
        rw [if_neg (by omega), Nat.add_sub_cancel, e3]
      rw [e4] at this
      exact this
    · have e1 : es[i]? = none := Array.getElem?_eq_none (by omega)
      have := q 0 (fun _ z => absurd z lt)
      rw [e1] at this ⊢
      exact this
theorem next_set {e : Int × Value} {Q : Option Value -> Shared -> Prop} (hit : s.heap.get? it = some (setIt slot i a es.size ep)) (ho : s.heap.get? a = some o) (hd : o.data = .set es ep t) (hf : t.fits es.size = true)
    (g : w.params.followText "set-order" = false -> goesOn t es.size = true /\ slot = slotAt t i) (hi : i < es.size) (hx : (ordOf w a ep es)[i]? = some e)
    (q : ∀ nx h', (w.params.followText "set-order" = false -> nx = slotAt t (i + 1)) -> h'.get? it = some (setIt (nx : Nat) ((i + 1 : Nat) : Int) a es.size ep) -> Heap.SameBut it s.heap h' -> Q (some e.2) { s with heap := h' }) : wpAny (model prog w) A (pyNext (.ref it)) Q E s := by
  have ty : s.TypeIs (.ref it) "set_iterator" := ⟨_, hit, rfl⟩
  unfold pyNext
  refine wpAny_bind (wpAny_attempt (wpAny_callSpecial?_slot (name := Str.ofString "__next__") ty slot_si_next (wpAny_call_entry slot_si_next ty entry_si_next ?_ (args_si_next _))))
  unfold Builtin.«set_iterator.__next__»
  refine wpAny_bind (wpAny_of_eq (a := (Value.ref it, [])) rfl (wpAny_bind (wpAny_fieldsOf hit rfl ?_)))
  show wpAny _ _ (setEntries a >>= _) _ _ s
  unfold setEntries
  refine wpAny_bind (wpAny_bind (wpAny_setState_of ho hd hf (wpAny_pure ?_)))
  rw [if_neg (by simp)]
  show wpAny _ _ (setNext a (slot : Int).toNat (i : Int).toNat (ep : Int).toNat >>= _) _ _ s
  simp only [Int.toNat_natCast]
  refine wpAny_bind (setNext_ ho hd hf g (by omega) fun nx hnx => ?_)
  rw [hx]
  simp only [Option.map_some]
  refine wpAny_bind (wpAny_setField_rec hit (by simp) fun h1 e1 b1 => ?_)
  replace b1 : Heap.SameBut it s.heap h1 := b1
  replace e1 : h1.get? it = some (setIt (nx : Nat) i a es.size ep) := e1
  refine wpAny_bind (wpAny_setField_rec (s := { s with heap := h1 }) e1 (by simp) fun h2 e2 b2 => ?_)
  replace b2 : Heap.SameBut it h1 h2 := b2
  replace e2 : h2.get? it = some (setIt (nx : Nat) ((i : Int) + 1) a es.size ep) := e2
  exact wpAny_pure ⟨_, rfl, wpAny_pure (q nx h2 (fun z => hnx z hi) (by rw [show ((i + 1 : Nat) : Int) = (i : Int) + 1 by omega]; exact e2) (b1.trans b2))⟩
theorem end_set {Q : Option Value -> Shared -> Prop} (hh : A.handled = none) (hit : s.heap.get? it = some (setIt slot i a es.size ep)) (ho : s.heap.get? a = some o) (hd : o.data = .set es ep t) (hf : t.fits es.size = true)
    (g : w.params.followText "set-order" = false -> goesOn t es.size = true /\ slot = slotAt t i) (hi : i = es.size) (hx : (ordOf w a ep es)[i]? = none)
    (q : ∀ h', Heap.ExtBut it s.heap h' -> Q none { s with heap := h' }) : wpAny (model prog w) A (pyNext (.ref it)) Q E s := by
  have ty : s.TypeIs (.ref it) "set_iterator" := ⟨_, hit, rfl⟩
  unfold pyNext
  refine wpAny_bind (wpAny_attempt (wpAny_callSpecial?_slot (name := Str.ofString "__next__") ty slot_si_next (wpAny_call_entry slot_si_next ty entry_si_next ?_ (args_si_next _))))
  unfold Builtin.«set_iterator.__next__»
  refine wpAny_bind (wpAny_of_eq (a := (Value.ref it, [])) rfl (wpAny_bind (wpAny_fieldsOf hit rfl ?_)))
  show wpAny _ _ (setEntries a >>= _) _ _ s
  unfold setEntries
  refine wpAny_bind (wpAny_bind (wpAny_setState_of ho hd hf (wpAny_pure ?_)))
  rw [if_neg (by simp)]
  show wpAny _ _ (setNext a (slot : Int).toNat (i : Int).toNat (ep : Int).toNat >>= _) _ _ s
  simp only [Int.toNat_natCast]
  refine wpAny_bind (setNext_ ho hd hf g (by omega) fun nx hnx => ?_)
  rw [hx]
  simp only [Option.map_none]
  show wpAny _ _ (setField (.ref it) 2 .none >>= _) _ _ s
  refine wpAny_bind (wpAny_setField hit rfl (by simp) ?_)
  show wpAny _ _ (newExc (.type "StopIteration") [] >>= _) _ _ _
  refine wpAny_bind ?_
  simp only [newExc, newTuple]
  refine wpAny_bind (wpAny_newObj_type (wpAny_bind (m := firstArgMember _ _) (wpAny_of_eq (a := Value.none) (by first | rfl | (simp only [firstArgMember]; rfl)) (wpAny_newObj_type ?_ (by size_fits)))) (by size_fits))
  simp only [raiseNew]
  refine wpAny_bind (wpAny_handled ?_)
  rw [show A.in1.handled = none from hh]
  refine wpAny_bind (wpAny_pure (wpAny_throw ?_))
  exact wpAny_bind (wpAny_isInstance (T := "StopIteration") (b := true) ⟨_, Heap.get?_push_size _ rfl, rfl⟩ isSubtype_stop (wpAny_pure (q _ (((Heap.SameBut.update ..).extBut.push _).push _))))
theorem self_set {Q : Value -> Shared -> Prop} (hit : s.heap.get? it = some (setIt slot i a es.size ep)) (h : Q (.ref it) s) : wpAny (model prog w) A (pyIter (.ref it)) Q E s := by
  have ty : s.TypeIs (.ref it) "set_iterator" := ⟨_, hit, rfl⟩
  refine wpAny_pyIter_slot ty slot_si_iter (wpAny_call_entry slot_si_iter ty entry_si_iter ?_ (args_si_iter _))
  show wpAny _ _ (ret (.ref it)) _ _ s
  exact wpAny_pure ⟨_, rfl, "set_iterator", _, ty, slot_si_next.lookup, h⟩
end
theorem pick_go {α : Type} (next : Nat -> Nat) : ∀ (f k : Nat) (l : List α) (out : Array α), f = l.length -> (pickOrder.go next f k l out).toList.Perm (out.toList ++ l)
  | 0, _, l, out, h => by
    have : l = [] := List.eq_nil_of_length_eq_zero h.symm
    subst this
    simp [pickOrder.go]
  | f + 1, k, l, out, h => by
    unfold pickOrder.go
    have pos : 0 < l.length := by omega
    have lt : next k % l.length < l.length := Nat.mod_lt _ pos
    rw [List.getElem?_eq_getElem lt]
    dsimp only
    refine (pick_go next f (k + 1) _ _ (by rw [List.length_eraseIdx, if_pos lt]; omega)).trans ?_
    rw [Array.toList_push, List.append_assoc]
    refine List.Perm.append_left _ ?_
    show (l[next k % l.length] :: l.eraseIdx (next k % l.length)).Perm l
    generalize next k % l.length = j at lt
    have e1 : l.eraseIdx j = l.take j ++ l.drop (j + 1) := List.eraseIdx_eq_take_drop_succ l j
    have e2 : l = l.take j ++ l[j] :: l.drop (j + 1) := by rw [List.getElem_cons_drop]; exact (List.take_append_drop j l).symm
    rw [e1]
    refine List.Perm.trans ?_ (List.Perm.of_eq e2.symm)
    exact List.perm_middle.symm
theorem ord_perm (w : World) (a : Addr) (ep : Nat) (es : Array (Int × Value)) : (ordOf w a ep es).toList.Perm es.toList := by
  unfold ordOf
  split
  · unfold pickOrder
    have := pick_go (w.params.setOrder a ep) es.size 0 es.toList #[] (by simp)
    simpa using this
  · exact List.Perm.refl _
theorem ord_size (w : World) (a : Addr) (ep : Nat) (es : Array (Int × Value)) : (ordOf w a ep es).size = es.size := by have := (ord_perm w a ep es).length_eq; simpa using this
theorem Walks.setW {prog : Program} {w : World} {A : Around} (hh : A.handled = none) (I a : Addr) (ne : a ≠ I) {o : Obj} {es : Array (Int × Value)} {ep : Nat} {t : SetTable} (hd : o.data = .set es ep t) (hf : t.fits es.size = true) (g : w.params.followText "set-order" = false -> goesOn t es.size = true) :
    Walks prog w A I [I, a] [I] es.size (fun i v => ((ordOf w a ep es)[i]?).map (·.2) = some v) (fun i h => i <= es.size /\ (∃ slot : Nat, h.get? I = some (setIt slot i a es.size ep) /\ (w.params.followText "set-order" = false -> slot = slotAt t i)) /\ h.get? a = some o) where
  sub := fun b hb => by simp at hb; simp [hb]
  frame := fun _ _ _ x hk => ⟨x.1, let ⟨sl, e, r⟩ := x.2.1; ⟨sl, hk I (by simp) _ e, r⟩, hk a (by simp) _ x.2.2⟩
  item := fun i s Q E hi x q => by
    obtain ⟨_, ⟨sl, hit, hs⟩, ho⟩ := x
    have e : (ordOf w a ep es)[i]? = some ((ordOf w a ep es)[i]'(by rw [ord_size]; exact hi)) := Array.getElem?_eq_getElem _
    refine next_set hit ho hd hf (fun z => ⟨g z, hs z⟩) hi e fun nx h' hn hit' sb => ?_
    exact q _ h' s.toks (by rw [e]; rfl) ⟨hi, ⟨nx, hit', hn⟩, (sb.2 a ne).trans ho⟩ fun b o hb eo => sb.extBut b o (fun z => hb (by simp [z])) eo
  done := fun s Q E x q => by
    obtain ⟨_, ⟨sl, hit, hs⟩, ho⟩ := x
    exact end_set hh hit ho hd hf (fun z => ⟨g z, hs z⟩) rfl (Array.getElem?_eq_none (by rw [ord_size]; exact Nat.le_refl _)) fun h' eb => q h' s.toks fun b o hb eo => eb b o (fun z => hb (by simp [z])) eo
  self := fun _ _ _ _ x q => let ⟨_, ⟨_, hit, _⟩, _⟩ := x; self_set hit q
section
variable {prog : Program} {w : World} {A : Around} {E : Value -> Shared -> Prop} {s : Shared} {a : Addr} {o : Obj} {es : Array (Int × Value)} {ep : Nat} {t : SetTable}
theorem lookup_set_len : typeLookup (.type "set") "__len__" = pure (some (.builtin "set.__len__")) := by rw [typeLookup_type, builtinLookup_eq_fast]; kernel_rfl
theorem hint_set {Q : Bool -> Shared -> Prop} (ty : s.TypeIs (.ref a) "set") (h : Q false s) : wpAny (model prog w) A (Builtin.List.listLengthHint (.ref a)) Q E s := by
  unfold Builtin.List.listLengthHint
  refine wpAny_bind (wpAny_specialOf ty lookup_set_len ?_)
  generalize hid : ("set.__len__" : String) = id0
  wp_delta
  rw [show splitId id0 = some ("set", "__len__") from by subst hid; decide +kernel]
  subst hid
  refine wpAny_bind (wpAny_isInstance (T := "set") (b := true) ty (by rw [isSubtype_type]; kernel_rfl) ?_)
  refine wpAny_ite_split (fun hab => absurd hab (by decide)) (fun _ => ?_)
  refine wpAny_ite_split (fun _ => ?_) (fun hab => absurd (by decide +kernel) hab)
  refine wpAny_bind (wpAny_typeOf ty ?_)
  exact wpAny_pure h
theorem extend_set {R : Result -> Shared -> Prop} (hh : A.handled = none) (ho : s.heap.get? a = some o) (hex : o.ExactSet) (hd : o.data = .set es ep t) (hf : t.fits es.size = true) (g : w.params.followText "set-order" = false -> goesOn t es.size = true) (hz : es.size <= 1000)
    (S : Addr) (res : Value) (c : Nat) (hS : s.heap.get? S = some { cls := .type "list", data := .seq #[] c })
    (q : ∀ h' tk acc c', (∀ b o, b ≠ S -> s.heap.get? b = some o -> h'.get? b = some o) -> h'.get? S = some { cls := .type "list", dict := none, data := .seq acc c', slots := #[] } ->
      ItemsOf (fun i v => ((ordOf w a ep es)[i]?).map (·.2) = some v) acc es.size -> R (.ok (.ret res)) { s with heap := h', toks := tk }) :
    wpAny (model prog w) A.in1 (Builtin.List.listExtendWith (.ref S) (.ref a) res)
      (fun fin s' => match fin with | .done f => R (.ok f) s' | .again c' => c'.quiet = true /\ codeAny (model prog w) A c' R s') (fun e s' => R (.error e) s') s := by
  have ty : s.TypeIs (.ref a) "set" := ⟨o, ho, hex.1⟩
  have ni : S ≠ a := fun e => by
    rw [<- e, hS] at ho
    cases ho
    cases hd
  have la : a < s.heap.objs.size := Heap.lt_size ho
  have lS : S < s.heap.objs.size := Heap.lt_size hS
  have Wk := (Walks.setW (prog := prog) (w := w) (A := A.in1) hh s.heap.objs.size a (Nat.ne_of_lt la) hd hf g).toS
  have nS : S ∉ [s.heap.objs.size, a] := by
    intro z
    rcases List.mem_cons.mp z with z | z
    · exact Nat.ne_of_lt lS z
    · exact ni (List.mem_singleton.mp z)
  have key : ∀ (h : Heap) (c₁ tk : Nat), h.get? s.heap.objs.size = some (setIt 0 0 a es.size ep) -> (∀ b o, b ≠ S -> s.heap.get? b = some o -> h.get? b = some o) -> h.get? S = some { cls := .type "list", data := .seq #[] c₁ } ->
      codeAny (model prog w) A (.builtin "list.extend.loop" ⟨[.ref S, .ref s.heap.objs.size, res], []⟩) R { s with heap := h, toks := tk } := by
    intro h c₁ tk e1 e2 e3
    refine codeAny_extend_loopS Wk (by rw [sizeLine_eq]; omega) S nS res es.size 0 _ #[] c₁ rfl (Nat.zero_le _) ⟨Nat.zero_le _, ⟨0, e1, fun _ => rfl⟩, e2 a o (Ne.symm ni) ho⟩ e3 (ItemsOf.nil _) fun s' acc c' hm hS' hacc => ?_
    rw [Moved.eq_with hm]
    refine q s'.heap s'.toks acc c' (fun b o hb e => hm.heap b o (fun hmem => ?_) (e2 b o hb e)) hS' hacc
    rcases List.mem_cons.mp hmem with e' | hmem
    · exact hb e'
    · exact absurd (Heap.lt_size e) (by rw [List.mem_singleton.mp hmem]; exact Nat.lt_irrefl _)
  unfold Builtin.List.listExtendWith
  refine wpAny_bind (wpAny_typeOf (T := "set") ty ?_)
  simp only [show Builtin.List.listSameRef (.ref S) (.ref a) = false from by simp [Builtin.List.listSameRef, ni], show (Value.type "set" == Value.type "list") = false from by decide, show (Value.type "set" == Value.type "tuple") = false from by decide, Bool.or_false, Bool.false_eq_true, if_false]
  refine wpAny_bind (iter_set ho hex hd hf g (wpAny_bind (wpAny_holding (hint_set (s := { s with heap := s.heap.push (setIt 0 0 a es.size ep) }) ⟨o, Heap.get?_push_of_some _ ho, hex.1⟩ ?_))))
  have i1 : (s.heap.push (setIt 0 0 a es.size ep)).get? s.heap.objs.size = some (setIt 0 0 a es.size ep) := Heap.get?_push_size _ rfl
  have S1 := Heap.get?_push_of_some (setIt 0 0 a es.size ep) hS
  have nSi : S ≠ s.heap.objs.size := Nat.ne_of_lt lS
  refine wpAny_ite_split (fun _ => ?_) (fun hab => absurd (by decide) hab)
  refine wpAny_bind (wpAny_rule (wpAny_bind ?_))
  show wpAny _ _ (updateSeq S (·.push .none) >>= fun _ => updateSeq S (·.pop)) _ _ _
  refine wpAny_bind (wpAny_updateSeq S1 rfl ?_)
  have S2 := Heap.get?_update_self (Obj.mapSeq (·.push Value.none)) S1 rfl
  refine wpAny_updateSeq (hz := by seq_fits) S2 rfl ?_
  have S3 := Heap.get?_update_self (Obj.mapSeq (·.pop)) S2 rfl
  refine wpAny_pure ⟨plainId_quiet F.plain_extend_loop _, key _ _ _ ?_ (fun b o hb e => ?_) S3⟩
  · exact (Heap.get?_update_other _ _ nSi).trans ((Heap.get?_update_other _ _ nSi).trans i1)
  · exact (Heap.get?_update_other _ _ (Ne.symm hb)).trans ((Heap.get?_update_other _ _ (Ne.symm hb)).trans (Heap.get?_push_of_some _ e))
theorem code_collect_set {R : Result -> Shared -> Prop} (hh : A.handled = none) (ho : s.heap.get? a = some o) (hex : o.ExactSet) (hd : o.data = .set es ep t) (hf : t.fits es.size = true) (g : w.params.followText "set-order" = false -> goesOn t es.size = true) (hz : es.size <= 1000)
    (q : ∀ h' tk acc c', (∀ b o, s.heap.get? b = some o -> h'.get? b = some o) -> h'.get? s.heap.objs.size = some { cls := .type "list", dict := none, data := .seq acc c', slots := #[] } ->
      ItemsOf (fun i v => ((ordOf w a ep es)[i]?).map (·.2) = some v) acc es.size -> R (.ok (.ret (.ref s.heap.objs.size))) { s with heap := h', toks := tk }) : codeAny (model prog w) A (.builtin "proto.collect" ⟨[.ref a], []⟩) R s := by
  have nl : (s.heap.push { cls := .type "list", data := .seq ([] : List Value).toArray }).get? s.heap.objs.size = some { cls := .type "list", data := .seq ([] : List Value).toArray } := Heap.get?_push_size _ rfl
  refine codeAny_builtin PySem.F.entry_proto_collect ?_
  rw [Around.under_plainId PySem.F.plain_proto_collect _]
  show wpAny _ A.in1 (newList [] >>= fun l => again (.builtin "list.__iadd__" ⟨[l, .ref a], []⟩)) _ _ s
  refine wpAny_bind (wpAny_newObj_type (wpAny_pure ⟨plainId_quiet PySem.F.plain_list_iadd _, codeAny_builtin PySem.F.entry_list_iadd ?_⟩))
  rw [Around.under_plainId PySem.F.plain_list_iadd _]
  show wpAny _ A.in1 (Builtin.List.listExtendWith (.ref s.heap.objs.size) (.ref a) (.ref s.heap.objs.size)) _ _ _
  exact extend_set (R := R) (s := { s with heap := s.heap.push { cls := .type "list", data := .seq ([] : List Value).toArray } }) hh (Heap.get?_push_of_some _ ho) hex hd hf g hz s.heap.objs.size _ 0 nl fun h' tk acc c' hk hS' hacc => q h' tk acc c' (fun b o z => hk b o (Nat.ne_of_lt (Heap.lt_size z)) (Heap.get?_push_of_some _ z)) hS' hacc
theorem collect_set {Q : List Value -> Shared -> Prop} (hh : A.handled = none) (ho : s.heap.get? a = some o) (hex : o.ExactSet) (hd : o.data = .set es ep t) (hf : t.fits es.size = true) (g : w.params.followText "set-order" = false -> goesOn t es.size = true) (hz : es.size <= 1000)
    (q : ∀ h' tk, (∀ b o, s.heap.get? b = some o -> h'.get? b = some o) -> s.heap.objs.size < h'.objs.size -> Q ((ordOf w a ep es).toList.map (·.2)) { s with heap := h', toks := tk }) : wpAny (model prog w) A (collect (.ref a)) Q E s := by
  unfold collect
  refine wpAny_bind (wpAny_runValue (code_collect_set hh ho hex hd hf g hz fun h' tk acc c' hk hS' hacc => ?_))
  show wpAny _ A (load s.heap.objs.size >>= _) _ _ _
  refine wpAny_bind (wpAny_load hS' (wpAny_pure ?_))
  have e : acc.toList = (ordOf w a ep es).toList.map (·.2) := by
    apply List.ext_getElem?
    intro i
    by_cases c : i < es.size
    · have ia : i < acc.size := by rw [hacc.1]; exact c
      have e1 := hacc.2 i acc[i] (by simp [ia])
      have e2 : acc.toList[i]? = some acc[i] := by simp [ia]
      rw [e2, List.getElem?_map, Array.getElem?_toList, e1]
    · rw [List.getElem?_eq_none (by rw [Array.length_toList, hacc.1]; omega), List.getElem?_eq_none (by rw [List.length_map, Array.length_toList, ord_size]; omega)]
  rw [e]
  exact q h' tk hk (Heap.lt_size hS')
end
section
variable {prog : Program} {w : World} {A : Around} {E : Value -> Shared -> Prop} {s : Shared} {a : Addr}
end
section
variable {X : Cx}
end
section
variable {prog : Program} {w : World} {A : Around} {E : Value -> Shared -> Prop} {s : Shared}
theorem collect_tup {l : Addr} {vs : List Value} {Q : List Value -> Shared -> Prop} (hl : IsTup s.heap l vs.toArray) (hsz : vs.length <= sizeLine)
    (h : Q vs { s with heap := (s.heap.push (seqObj "list" #[] 0)).update s.heap.objs.size (Obj.mapSeq (· ++ vs.toArray)) }) : wpAny (model prog w) A (collect (.ref l)) Q E s := by
  obtain ⟨o, ho, hc, n, hd⟩ := id hl
  unfold collect
  refine wpAny_bind (wpAny_runValue (codeAny_builtin entry_proto_collect' ?_))
  show wpAny _ _ (do again (.builtin "list.__iadd__" ⟨[<- newList [], .ref l], []⟩)) _ _ s
  refine wpAny_bind (wpAny_newList (wpAny_pure ⟨Code.quiet_builtin _ (by decide +kernel), codeAny_builtin entry_list_iadd' ?_⟩))
  show wpAny _ _ (Builtin.List.listExtendWith (.ref s.heap.objs.size) (.ref l) (.ref s.heap.objs.size)) _ _ { s with heap := s.heap.push (seqObj "list" #[] 0) }
  have ho' : (s.heap.push (seqObj "list" #[] 0)).get? l = some o := Heap.get?_push_of_some _ ho
  unfold Builtin.List.listExtendWith
  refine wpAny_bind (wpAny_typeOf (T := "tuple") ⟨o, ho', hc⟩ ?_)
  rw [if_pos (by rw [show (Value.type "tuple" == Value.type "tuple") = true from rfl]; simp)]
  refine wpAny_bind (listItems_at ho' hd (wpAny_bind (listItems_at (xs := #[]) (n := 0) (Heap.get?_push_size _ rfl) rfl ?_)))
  rw [if_neg (by simp)]
  refine wpAny_bind (listUpdate_at (xs := #[]) (n := 0) (Heap.get?_push_size _ rfl) rfl (wpAny_pure ?_) (Nat.zero_le _) (by show (#[] ++ vs.toArray).size <= sizeLine + 1; simp only [Array.size_append, List.size_toArray, List.length_nil]; omega))
  show wpAny (model prog w) A (load s.heap.objs.size >>= _) Q E { s with heap := (s.heap.push (seqObj "list" #[] 0)).update s.heap.objs.size (Obj.mapSeq (· ++ vs.toArray)) }
  refine wpAny_bind (wpAny_load (get?_update_seq (Heap.get?_push_size _ rfl) _) ?_)
  show wpAny _ _ (pure ((#[] : Array Value) ++ vs.toArray).toList) Q E _
  rw [show ((#[] : Array Value) ++ vs.toArray).toList = vs by simp]
  exact wpAny_pure h
theorem sorted_tup {l : Addr} {vs : List Value} {ns : List Int} {Q : Value -> Shared -> Prop} (hl : IsTup s.heap l vs.toArray) (hI : IntsAre vs ns) (h64 : vs.length < 64)
    (h : ∀ (out : Array Value) (ms : List Int), IntsAre out.toList ms -> ms.Perm ns -> ms.Pairwise (· <= ·) -> Q (.ref (s.heap.objs.size + 1)) { s with heap := sortedAll s.heap vs out }) :
    wpAny (model prog w) A (call (.builtin "sorted") [.ref l]) Q E s := by
  refine Calls.call_function_entry kind_sorted plain_sorted entry_sorted (args_sorted1 _) ?_
  unfold Builtin.«sorted»
  refine wpAny_bind (m := checkCount "sorted" 1 1 _) (wpAny_pure (wpAny_bind (collect_tup hl (by rw [sizeLine_eq]; omega) (wpAny_bind (wpAny_newList ?_ (by rw [sizeLine_eq]; omega))))))
  have z1 : ((s.heap.push (seqObj "list" #[] 0)).update s.heap.objs.size (Obj.mapSeq (· ++ vs.toArray))).objs.size = s.heap.objs.size + 1 := by rw [Heap.size_update, size_push']
  have oL : (((s.heap.push (seqObj "list" #[] 0)).update s.heap.objs.size (Obj.mapSeq (· ++ vs.toArray))).push (seqObj "list" vs.toArray 0)).get? (s.heap.objs.size + 1) = some (seqObj "list" vs.toArray 0) := by
    rw [<- z1]; exact Heap.get?_push_size _ rfl
  show wpAny _ _ _ _ _ { s with heap := ((s.heap.push (seqObj "list" #[] 0)).update s.heap.objs.size (Obj.mapSeq (· ++ vs.toArray))).push (seqObj "list" vs.toArray 0) }
  rw [z1]
  refine wpAny_bind (wpAny_holding (wpAny_call_entry slot_list_sort ⟨_, oL, rfl⟩ entry_list_sort (list_sort_tree oL hI h64 fun out ms a1 a2 a3 => ⟨_, rfl, ?_⟩) (args_list_sort _)))
  exact wpAny_pure ⟨_, rfl, h out ms a1 a2 a3⟩
end
section
variable {X : Cx}
theorem call_sortedTI : CallR X (.builtin "sorted") (fun xs H Q => ∃ (p : Addr) (ns : List Int), xs = [.ref p] /\ SqT X.K H p (ns.map V.int) /\ ns.length < 64 /\ ∀ (l : Addr) (ms : List Int), ms.Perm ns -> ms.Pairwise (· <= ·) -> H l = none -> Q (.ref l) (upd H l (.lst (ms.map V.int)))) := by
  intro pins s σ H xs us Q I r h
  obtain ⟨p, ns, rfl, hp, hn, q⟩ := h
  obtain ⟨u, rfl, ru⟩ := Vals.one r
  cases (show u = Value.ref p from ru)
  obtain ⟨its, r1, t1, _⟩ := I.tuple hp
  have hl : its.length = ns.length := by have := r1.length; rw [List.length_map] at this; omega
  refine sorted_tup t1 (intsAre_of r1) (by omega) fun out ms a1 a2 a3 => ?_
  obtain ⟨e, he⟩ := sortedAll_at s.heap its out
  have fr : s.heap.objs.size <= s.heap.objs.size + 1 := Nat.le_succ _
  refine ⟨.ref (s.heap.objs.size + 1), upd H (s.heap.objs.size + 1) (.lst (ms.map V.int)), I.laid (t' := s.toks) (fun b o z => sortedAll_old z) fr ?_, rfl, q _ ms a2 a3 (I.hok.fresh fr)⟩
  refine ⟨?_, out.toList, e, vals_of_ints a1, by rw [he]⟩
  rw [List.length_map, a2.length_eq]
  exact Nat.le_trans (Nat.le_of_lt hn) (by decide)
end
end L2
namespace L2
open PySem PySem.W PyProof.Rows
section
variable {prog : Program} {w : World} {A : Around} {E : Value -> Shared -> Prop} {s : Shared} {κ : SortKind} {it : Array Keyed} {lt : Nat -> Nat -> Bool} {N : Nat}
end
end L2
namespace L2
open PySem PySem.W PyProof.Rows
section
variable {lt : Nat -> Nat -> Bool}
end
section
variable {prog : Program} {w : World} {A : Around} {E : Value -> Shared -> Prop} {s : Shared} {κ : SortKind} {it : Array Keyed} {lt : Nat -> Nat -> Bool} {N : Nat}
end
end L2
namespace L2
open PySem PySem.W PyProof.Rows
section
variable {prog : Program} {w : World} {A : Around} {E : Value -> Shared -> Prop} {s : Shared} {κ : SortKind} {it : Array Keyed} {lt : Nat -> Nat -> Bool} {N : Nat}
end
end L2
namespace L2
open PySem PySem.W PyProof.Rows
section
variable {prog : Program} {w : World} {A : Around} {E : Value -> Shared -> Prop} {s : Shared} {κ : SortKind} {it : Array Keyed} {lt : Nat -> Nat -> Bool} {N : Nat}
end
end L2
namespace L2
open PySem PySem.W PyProof.Rows
section
variable {prog : Program} {w : World} {A : Around} {E : Value -> Shared -> Prop} {s : Shared} {κ : SortKind} {it : Array Keyed} {lt : Nat -> Nat -> Bool} {N : Nat}
end
end L2
namespace L2
open PySem PySem.W PyProof.Rows
section
variable {prog : Program} {w : World} {A : Around} {E : Value -> Shared -> Prop} {s : Shared} {κ : SortKind} {it : Array Keyed} {lt : Nat -> Nat -> Bool} {N : Nat}
end
end L2
namespace L2
open PySem PySem.W PyProof.Rows
section
variable {prog : Program} {w : World} {A : Around} {E : Value -> Shared -> Prop} {s : Shared} {κ : SortKind} {it : Array Keyed} {lt : Nat -> Nat -> Bool} {N : Nat}
end
end L2
namespace L2
open PySem PySem.W PyProof.Rows
section
variable {prog : Program} {w : World} {A : Around} {E : Value -> Shared -> Prop} {s : Shared} {κ : SortKind} {it : Array Keyed} {lt : Nat -> Nat -> Bool} {N : Nat}
end
end L2
namespace L2
open PySem PySem.W PyProof.Rows
section
variable {prog : Program} {w : World} {A : Around} {E : Value -> Shared -> Prop} {s : Shared} {κ : SortKind} {it : Array Keyed} {lt : Nat -> Nat -> Bool} {N : Nat}
end
end L2
namespace L2
open PySem PySem.W PyProof.Rows
section
variable {prog : Program} {w : World} {A : Around} {E : Value -> Shared -> Prop} {s : Shared}
end
end L2
namespace L2
open PySem PySem.W PyProof.Rows
section
variable {X : Cx}
end
end L2
namespace L2
open PySem PySem.Spec PyProof.Rows
theorem sqT {K : PySem.W.Frag} {H H' : Hp} {a : Addr} {xs : List V} (e : Same H H') (h : SqT K H a xs) : SqT K H' a xs := e.seqK (k := .t) h
section
variable {X : Cx}
end
end L2
namespace L2
open PySem PySem.W PyProof.Rows
section
variable {X : Cx}
end
section
variable {prog : Program} {w : World} {A : Around}
end
section
variable {X : Cx}
theorem ints_at' {ns : List Int} {its : List Value} (r : Vals (ns.map V.int) its) {i : Nat} {v : Value} (e : its.toArray[i]? = some v) : ∃ t, v = .int (ns.getD i 0) t := by
  have e' : its[i]? = some v := by simpa using e
  have hl : i < its.length := (List.getElem?_eq_some_iff.mp e').1
  have hb : i < ns.length := by have := r.length; rw [List.length_map] at this; omega
  obtain ⟨u, e1, t, q⟩ := r.get (i := i) (x := V.int ns[i]) (by simp [hb])
  rw [e1] at e'
  cases e'
  exact ⟨t, by rw [q]; simp [List.getD, hb]⟩
end
end L2
namespace L2
open PySem PySem.Spec PyProof.Rows
section
variable {X : Cx}
end
end L2
namespace L2
open PySem PySem.W PyProof.Rows
section
variable {prog : Program} {w : World} {d : Addr} {es : Array DictEntry} {ep : Nat} {o : Obj}
end
section
variable {X : Cx}
end
end L2
namespace L2
open PySem PySem.Spec PyProof.Rows
section
variable {X : Cx}
theorem range_any_get (bs : List Bool) : (List.range bs.length).any (fun i => bs.getD i false) = bs.any id := by
  rw [Bool.eq_iff_iff, List.any_eq_true, List.any_eq_true]
  constructor
  · rintro ⟨i, hi, h⟩
    have hi' := List.mem_range.mp hi
    refine ⟨bs[i], List.getElem_mem hi', ?_⟩
    simpa [List.getD, hi'] using h
  · rintro ⟨x, hx, h⟩
    obtain ⟨i, hi, e⟩ := List.mem_iff_getElem.mp hx
    refine ⟨i, List.mem_range.mpr hi, ?_⟩
    simp [List.getD, hi, e]
    exact h
theorem call_any (hc : X.calm = true) : CallR X (.builtin "any") (fun xs H Q => ∃ (p : Addr) (bs : List Bool), xs = [.ref p] /\ SqL X.K H p (bs.map V.bl) /\ Q (.bl (bs.any id)) H) := by
  intro pins s σ H xs us Q I r h
  obtain ⟨p, bs, rfl, hp, q⟩ := h
  obtain ⟨u, rfl, ru⟩ := Vals.one r
  cases (show u = Value.ref p from ru)
  obtain ⟨its, r1, t1, _⟩ := I.list hp
  have hh : X.A.in1.handled = none := I.ok.hd hc
  have hlt : p < s.heap.objs.size := by obtain ⟨_, e, _⟩ := t1.isList; exact Heap.lt_size e
  refine call_any_walk (wpAny_pyIter_list t1.isList ⟨_, _, _, _, _, _, fun i => bs.getD i false, rfl, Walks.list hh _ p (Nat.ne_of_lt hlt) its.toArray, ⟨⟨_, Heap.get?_push_size _ rfl, rfl, rfl⟩, t1.isList.push _⟩, ?_, ?_⟩)
  · intro i v s' Q' E' e hq
    rw [bools_at r1 e]
    exact wpAny_truthy_bool hq
  · intro h' tk hk
    have hl : its.toArray.size = bs.length := by have := r1.length; simp at this ⊢; omega
    rw [hl, range_any_get]
    exact ⟨.bl _, H, I.kept (kept_iter hk), rfl, q⟩
def rInsert : V -> List V -> Hp -> VK -> Prop := fun x vs H Q => ∃ (l : Addr) (xs : List V) (i : Nat) (y : V), x = .ref l /\ vs = [.int (i : Int), y] /\ H l = some (.lst xs) /\ i <= xs.length /\ xs.length < 1000 /\ Q .non (upd H l (.lst (xs.take i ++ y :: xs.drop i)))
theorem vals_take {xs : List V} {us : List Value} (r : Vals xs us) (i : Nat) : Vals (xs.take i) (us.take i) := by
  induction r generalizing i with
  | nil => simp; exact .nil
  | cons a t ih =>
    cases i with
    | zero => exact .nil
    | succ i => exact .cons a (ih i)
theorem vals_drop {xs : List V} {us : List Value} (r : Vals xs us) (i : Nat) : Vals (xs.drop i) (us.drop i) := by
  induction r generalizing i with
  | nil => simp; exact .nil
  | cons a t ih =>
    cases i with
    | zero => exact .cons a t
    | succ i => exact ih i
theorem mt_insert : MtM X "list.insert" rInsert := by
  intro pins s σ H x vs v us Q I rx rv h
  obtain ⟨l, xs, i, y, rfl, rfl, hH, hi, hz, q⟩ := h
  cases rx
  obtain ⟨u1, u2, rfl, r1, r2⟩ := Vals.two rv
  obtain ⟨t, rfl⟩ := r1
  obtain ⟨z, its, n, r, hl, e⟩ := I.lstM hH
  have sl : (1000 : Nat) <= sizeLine := by decide
  have hs : its.toArray.size <= sizeLine := by rw [List.size_toArray, <- hl]; exact z
  have fin : ∀ ii : Int, ii = (i : Int) -> wpAny (model X.prog X.w) X.A (call (.builtin "list.insert") [.ref l, .int ii t, u2]) (EP X pins σ Q) X.xe s := by
    intro ii hii
    have hfit : ¬(!Builtin.List.listFitsIndex ii) = true := by
      unfold Builtin.List.listFitsIndex
      simp
      omega
    refine call_meets F.slot_list_insert ⟨_, e, rfl⟩ F.entry_list_insert (F.args_list_insert_3 _ _ _) (AutoSeq1.list_insert_list_int_val_1 l its.toArray n ii t u2 hfit hs) ⟨e, ?_⟩
    refine ⟨.non, _, I.lset (its' := its.take i ++ u2 :: its.drop i) hH e ?_ ((vals_take r i).append (.cons r2 (vals_drop r i))) ?_, rfl, q⟩
    · dsimp only
      rw [if_neg (by omega), show ii.toNat = i by omega, List.size_toArray, Nat.min_eq_left (by omega)]
      apply Array.ext'
      simp
      exact List.take_of_length_le (by rw [List.length_drop]; exact Nat.le_refl _)
    · rw [List.length_append, List.length_cons, List.length_take, List.length_drop]
      omega
  exact fin _ rfl
end
end L2
namespace L2
open PySem PySem.Spec PyProof.Rows PySem.MeetsSeq
section
variable {X : Cx}
end
end L2
namespace L2
open PySem PySem.Spec PyProof.Rows PySem.MeetsSeq
def FzT (H : Hp) (a : Addr) (xs : List V) : Prop := ∃ o : Obj, o.cls = .type "tuple" /\ o.dict = none /\ H a = some (.frz o (.tup xs))
theorem FzT.sq {K : PySem.W.Frag} {H : Hp} {a : Addr} {xs : List V} (h : FzT H a xs) : SqT K H a xs := let ⟨o, _, _, e⟩ := h; .inl (.inr ⟨o, e⟩)
theorem FzT.same {H H' : Hp} {a : Addr} {xs : List V} (h : FzT H a xs) (s : Same H H') : FzT H' a xs := let ⟨o, c, d, e⟩ := h; ⟨o, c, d, s _ _ e⟩
theorem FzT.new {H : Hp} {a : Addr} {xs : List V} {o : Obj} (c : o.cls = .type "tuple") (d : o.dict = none) : FzT (upd H a (.frz o (.tup xs))) a xs := ⟨o, c, d, upd_same⟩
section
variable {X : Cx}
variable {o e : Expr} {es : List Expr} {to : TE} {t : TA} {name : Str} {apos cpos : Pos} {id : String} {r : V -> List V -> Hp -> VK -> Prop}
theorem call_tupleF : CallR X (.type "tuple") (fun xs H Q => ∃ p ys, xs = [.ref p] /\ ((SqL X.K H p ys /\ ∀ l o, o.cls = .type "tuple" -> o.dict = none -> H l = none -> Q (.ref l) (upd H l (.frz o (.tup ys)))) \/ (SqT X.K H p ys /\ Q (.ref p) H))) := by
  intro pins s σ H xs us Q I r h
  obtain ⟨p, ys, rfl, h⟩ := h
  obtain ⟨u, rfl, rx⟩ := vals1 r
  cases rx
  rcases h with ⟨hq, q⟩ | ⟨hq, q⟩
  · obtain ⟨its, r', pl, hz⟩ := I.list hq
    have hlen := r'.length
    refine call_tuple_list pl.isList (fun h' kp => ?_) (by simp only [List.size_toArray] <;> lia)
    have I1 : Inv X pins σ H { s with heap := h' } := I.kept (t' := s.toks) kp
    have I2 : Inv X pins σ (upd H h'.objs.size (.frz { cls := .type "tuple", data := .seq its.toArray } (.tup ys))) { s with heap := h'.push { cls := .type "tuple", data := .seq its.toArray } } :=
      I1.laid (t' := s.toks) (fun b o e => Heap.get?_push_of_some _ e) (Nat.le_refl _) (show ObjOk X.prog X.w _ _ _ (.frz _ (.tup ys)) from ⟨Heap.get?_push_size _ rfl, hz, its, r', IsTup.new _ _⟩)
    exact ⟨.ref h'.objs.size, _, I2, rfl, q _ _ rfl rfl (I1.hok.fresh (Nat.le_refl _))⟩
  · obtain ⟨its, r', pl, hz⟩ := I.tuple hq
    exact call_tuple_same pl ⟨.ref p, H, I, rfl, q⟩
theorem call_tuple_rngF (hc : X.calm = true) : CallR X (.type "tuple") (fun xs H Q => ∃ (p : Addr) (n : Nat), xs = [.ref p] /\ H p = some (.rng 0 n) /\ n <= 1000 /\ ∀ l o, o.cls = .type "tuple" -> o.dict = none -> H l = none -> Q (.ref l) (upd H l (.frz o (.tup (upN n))))) := by
  intro pins s σ H xs us Q I r h
  obtain ⟨p, n, rfl, hp, hn, q⟩ := h
  obtain ⟨u, rfl, ru⟩ := Vals.one r
  cases (show u = Value.ref p from ru)
  obtain ⟨t1, t2, t3, e⟩ := I.hok p _ hp
  refine callType_new F.called_tuple (by decide) (F.typeCall_tuple_1 _) (F.newCall_tuple_1 _) (fun obj => F.args_object_init_2 obj _) F.entry_tuple_new
    (new_tuple_range p 0 n 1 t1 t2 t3 n (small_one (by decide) (by decide) (by lia) (by lia)) (size1 n) (by lia)) ⟨⟨I.ok.hd hc, e⟩, fun h' tk acc hk hz hacc => ⟨⟨_, Heap.get?_push_size _ rfl, rfl⟩, ?_⟩⟩
  have ge : s.heap.objs.size <= h'.objs.size := Nat.le_of_lt hz
  refine ⟨.ref h'.objs.size, upd H h'.objs.size (.frz { cls := .type "tuple", data := .seq acc } (.tup (upN n))), I.laid (fun b o e => Heap.get?_push_of_some _ (hk b o e)) ge ?_, rfl, q _ _ rfl rfl (I.hok.fresh ge)⟩
  refine ⟨Heap.get?_push_size _ rfl, by unfold upN; rw [List.length_map, List.length_range]; exact Nat.le_trans hn (by decide), acc.toList, items_up hacc, _, Heap.get?_push_size _ rfl, rfl, 0, by simp⟩
def rIsTsF (K : PySem.W.Frag) : List V -> Hp -> VK -> Prop := fun xs H Q => ∃ (a p : Addr) (cs ys : List V) (T : String) (b : Bool), xs = [.ref a, .ref p] /\ SqT K H p cs /\ ((H a = some (.lst ys) /\ T = "list") \/ (FzT H a ys /\ T = "tuple")) /\ (∀ us, Vals cs us -> PySem.W.kitAny K (.type T) us = some b) /\ Q (.bl b) H
theorem call_isTsF : CallR X (.builtin "isinstance") (rIsTsF X.K) := by
  intro pins s σ H xs us Q I r h
  obtain ⟨a, p, cs, ys, T, b, rfl, hp, ha, e, q⟩ := h
  obtain ⟨v1, v2, rfl, r1, r2⟩ := Vals.two r
  cases (show v1 = Value.ref a from r1)
  cases (show v2 = Value.ref p from r2)
  obtain ⟨its, rv, ⟨o, ho, hc, n, hd⟩, _⟩ := I.tuple hp
  obtain ⟨oc, od, dt, sl⟩ := o
  have e1 : oc = .type "tuple" := hc
  have e2 : dt = .seq its.toArray n := hd
  subst e1 e2
  rcases ha with ⟨ea, rfl⟩ | ⟨⟨ob, c1, _, ea⟩, rfl⟩
  · obtain ⟨_, _, n, _, h1⟩ := (show ObjOk X.prog X.w H s.heap a (.lst ys) from I.hok a _ ea)
    exact PySem.W.kia_tup PySem.W.kitx_list I.kIn ⟨_, h1, rfl⟩ ho (e its rv) (by intro z; cases z) fun tk => ⟨.bl b, H, I.tok _, rfl, q⟩
  · exact PySem.W.kia_tup PySem.W.kitx_tuple I.kIn ⟨ob, (I.hok a _ ea).1, c1⟩ ho (e its rv) (by intro z; cases z) fun tk => ⟨.bl b, H, I.tok _, rfl, q⟩
end
end L2
namespace HT
open PySem PySem.Spec PyProof.Rows
section
variable {prog : Program} {w : World} {A : Around} {E : Value -> Shared -> Prop} {s : Shared}
end
end HT
namespace L2
open PySem PySem.Spec PyProof.Rows
section
variable {X : Cx}
end
end L2
namespace L2
open PySem PySem.Spec PyProof.Rows
section
open PySem.SeqAt
open PySem.AutoSeq1 (wpAny_loadPart')
open PySem.MeetsSeq PySem.MeetsSeq2 PySem.MeetsSeq3
end
end L2
namespace L2
open PySem PySem.W PyProof.Rows
section
variable {prog : Program} {w : World} {A : Around} {E : Value -> Shared -> Prop} {s : Shared}
end
section
variable {X : Cx}
end
end L2
namespace L2
open PySem PySem.Spec PyProof.Rows
section
variable {env : Env} {C : Addr} {names : List (Str × NameKind)} {x : Str} {d : Addr}
end
section
variable {X : Cx} {scope : Scope} {N' : List Str} {fr : List (Option Nat)} {pins : List (Addr × Obj)} {σ : St} {H : Hp} {s : Shared} {fp : List Addr}
end
section
variable {X : Cx} {scope : Scope} {N' : List Str} {fr : List (Option Nat)} {pins : List (Addr × Obj)} {σ : St} {H : Hp} {s : Shared} {fp : List Addr} {it : Addr} {tn : Nat -> Heap -> Prop} {J : It}
  {elt tg iter : Expr} {ifs : List Expr} {g : TG} {tt : TT} {te : TE} {pos : Pos} {fin : List V -> Hp -> Prop} {W : Nat -> Nat -> List V -> St -> Hp -> Prop} {RR : Value -> Addr -> Result -> Shared -> Prop} {E : Value -> Shared -> Prop}
end
end L2
namespace L2
open PySem PySem.Spec PyProof.Rows PySem.MeetsSeq PySem.AutoSeq1
end L2
namespace L2
open PySem PySem.Spec PyProof.Rows
section
variable {X : Cx}
theorem call_intB : CallR X (.type "int") (fun xs H Q => ∃ b : Bool, xs = [.bl b] /\ Q (.int (if b = true then 1 else 0)) H) := by
  intro pins s σ H xs us Q I r h
  obtain ⟨b, rfl, q⟩ := h
  obtain ⟨u, rfl, ru⟩ := Vals.one r
  cases (show u = Value.bool b from ru)
  exact call_int_bool ⟨.int _, H, I.kept (t' := s.toks + 1) fun b o e => e, ⟨_, rfl⟩, q⟩
end
def rLenK (K : PySem.W.Frag) : List V -> Hp -> VK -> Prop := fun xs H Q => ∃ p ys, xs = [.ref p] /\ (SqL K H p ys \/ SqT K H p ys) /\ Q (.int ys.length) H
def rIsiK (K : PySem.W.Frag) : List V -> Hp -> VK -> Prop := fun xs H Q => ∃ x c t u b, xs = [x, c] /\ RelV c u /\ TyOf K H x t /\ PySem.W.kitOne K t u = some b /\ Q (.bl b) H
def rTupOfK (K : PySem.W.Frag) : List V -> Hp -> VK -> Prop := fun xs H Q => ∃ p ys, xs = [.ref p] /\ ((SqL K H p ys /\ ∀ l, H l = none -> Q (.ref l) (upd H l (.tup ys))) \/ (SqT K H p ys /\ Q (.ref p) H))
def rListOfK (K : PySem.W.Frag) : List V -> Hp -> VK -> Prop := fun xs H Q => ∃ p ys, xs = [.ref p] /\ (SqL K H p ys \/ SqT K H p ys) /\ ∀ l, H l = none -> Q (.ref l) (upd H l (.lst ys))
theorem seq_abs {A B : TS} {D : Ends} {σ : St} {H : Hp} (h : ∀ M : St -> Hp -> Prop, (∀ σ H, B D σ H -> M σ H) -> A { D with nx := M } σ H) : tSeq A B D σ H := h _ fun _ _ z => z
section
variable {X : Cx} (K : PySem.W.Frag)
theorem ix_listK (h : X.K = K := by rfl) : IxR X (rIxL K) := h ▸ ix_list
theorem ix_tupK (h : X.K = K := by rfl) : IxR X (rIxT K) := h ▸ ix_tup
theorem sl_listK (h : X.K = K := by rfl) : SlR X (rSlL K) := h ▸ sl_list
theorem call_lenK (h : X.K = K := by rfl) : CallR X (.builtin "len") (rLenK K) := h ▸ call_len_seq
theorem call_isiK (h : X.K = K := by rfl) : CallR X (.builtin "isinstance") (rIsiK K) := h ▸ call_isinst
theorem call_tuple_ofK (h : X.K = K := by rfl) : CallR X (.type "tuple") (rTupOfK K) := h ▸ call_tuple_of
theorem call_list_ofK (h : X.K = K := by rfl) : CallR X (.type "list") (rListOfK K) := h ▸ call_list_of
theorem op_eqNilK (hu : X.A.units + 66 < cLine) (h : X.K = K := by rfl) : OpR X (compareOp .Eq) (rNil K false) := h ▸ op_eqNil hu
theorem op_neNilK (hu : X.A.units + 66 < cLine) (h : X.K = K := by rfl) : OpR X (compareOp .NotEq) (rNil K true) := h ▸ op_neNil hu
theorem op_neSK (hu : X.A.units + 66 < cLine) (h : X.K = K := by rfl) : OpR X (compareOp .NotEq) (rSame K false) := h ▸ op_neS hu
theorem pi_seqK {tg : Expr} (k : Kd) {l : Expr} {tl : TE} (hl : PE X l tl) (h : X.K = K := by rfl) : PI X tg l (iSeq k K tl) := h ▸ pi_seq k hl
theorem pg_tupK (n : Nat) {es : List Expr} {k : Nat} {t : TGs} {pos : Pos} (hc : X.calm = true) (h : PGs X es t)
    (hn : (assignEach es X.env).length = n := by rfl) (hst : (assignEach es X.env).findIdx? (·.1) = none := by rfl) (hK : X.K = K := by rfl) : PG X (.Tuple es k pos) (gTup K n t) := hK ▸ pg_tup hc h hn hst
theorem pi_enumK {elts : List Expr} {x1 : Nat} {tpos : Pos} {l : Expr} {ta : TA} {p pos : Pos} (k : Kd) (hg : Gl X "enumerate") (hm : X.mg "enumerate" = none) (ha : PA X [l] ta) (hs : starEach [l] X.env = [(false, eval l X.env)] := by rfl) (h : X.K = K := by rfl) :
    PI X (.Tuple elts x1 tpos) (.Call (.Name "enumerate" p) [l] [] pos) (iEnum k K ta) := h ▸ pi_enum k hg hm ha hs
end
section
variable {X : Cx}
end
section
variable {X : Cx}
end
section
variable {X : Cx} {m : Str} {apos pos : Pos} {o : Expr} {ta : TE}
end
section
variable {X : Cx}
end
section
variable {X : Cx}
end
end L2
namespace L2
open PySem PySem.W PyProof.Rows
section
variable {X : Cx}
end
end L2
namespace L2
open PySem PySem.W PyProof.Rows
section
variable {prog : Program} {w : World} {A : Around} {E : Value -> Shared -> Prop} {s : Shared}
end
end L2
namespace L2
open PySem PySem.W PyProof.Rows
section
variable {X : Cx}
theorem all_same {α : Type} [DecidableEq α] (d : α) {l m : List α} {n k : Nat} (hn : n = l.length) (hk : k = m.length) : ((List.range (min n k)).all (fun i => decide (l.getD i d = m.getD i d)) && n == k) = decide (l = m) := by
  subst hn hk
  rw [Bool.eq_iff_iff, Bool.and_eq_true, List.all_eq_true, beq_iff_eq, decide_eq_true_iff]
  constructor
  · rintro ⟨h, e⟩
    refine List.ext_getElem e fun i h1 h2 => ?_
    have := of_decide_eq_true (h i (List.mem_range.mpr (by lia)))
    simpa [h1, h2] using this
  · rintro rfl
    exact ⟨fun i _ => decide_eq_true rfl, rfl⟩
theorem eqV_int (i j : Int) : eqV (.int i) (.int j) = decide (i = j) := by
  unfold eqV
  rw [Bool.eq_iff_iff, beq_iff_eq, decide_eq_true_iff]
end
end L2
namespace L2
open PySem PySem.W PyProof.Rows
section
variable {X : Cx} {pos : Pos}
end
end L2
namespace L2
open PySem PySem.SetTable
abbrev Ris (l : List Nat) : Prop := l.Pairwise (· < ·)
theorem ris_lt {xs : Array Nat} (hr : Ris xs.toList) {a b : Nat} (hb : b < xs.size) (h : a < b) : xs.getD a 0 < xs.getD b 0 := by
  have := List.pairwise_iff_getElem.mp hr a b (by simpa using Nat.lt_trans h hb) (by simpa using hb) h
  have ha : a < xs.size := Nat.lt_trans h hb
  simpa [Array.getD, ha, hb] using this
theorem below_go (xs : Array Nat) (j : Nat) (hr : Ris xs.toList) : ∀ (f lo hi : Nat), hi <= xs.size -> lo <= hi -> hi - lo <= f -> (∀ k, k < lo -> xs.getD k 0 < j) -> (∀ k, k < xs.size -> hi <= k -> j <= xs.getD k 0) ->
    below.go xs j f lo hi <= xs.size /\ (∀ k, k < below.go xs j f lo hi -> xs.getD k 0 < j) /\ ∀ k, k < xs.size -> below.go xs j f lo hi <= k -> j <= xs.getD k 0
  | 0, lo, hi, h1, h2, h3, hl, hh => by
    have : lo = hi := by lia
    subst this
    exact ⟨h1, hl, hh⟩
  | f + 1, lo, hi, h1, h2, h3, hl, hh => by
    unfold below.go
    by_cases c : lo < hi
    · rw [if_pos c]
      dsimp only
      have m1 : (lo + hi) / 2 < hi := by lia
      have m0 : lo <= (lo + hi) / 2 := by lia
      have ms : (lo + hi) / 2 < xs.size := by lia
      have eg : xs.getD ((lo + hi) / 2) j = xs.getD ((lo + hi) / 2) 0 := by simp [Array.getD, ms]
      rw [eg]
      generalize (lo + hi) / 2 = mid at m1 m0 ms
      by_cases c2 : xs.getD mid 0 < j
      · rw [if_pos c2]
        refine below_go xs j hr f (mid + 1) hi h1 (by lia) (by lia) (fun k hk => ?_) hh
        by_cases e : k = mid
        · rw [e]; exact c2
        · exact Nat.lt_trans (ris_lt hr ms (by lia)) c2
      · rw [if_neg c2]
        refine below_go xs j hr f lo mid (by lia) m0 (by lia) hl (fun k hk hm => ?_)
        by_cases e : k = mid
        · rw [e]; lia
        · exact Nat.le_trans (by lia) (Nat.le_of_lt (ris_lt hr hk (show mid < k by lia)))
    · rw [if_neg c]
      have : lo = hi := by lia
      subst this
      exact ⟨h1, hl, hh⟩
theorem below_is {xs : Array Nat} (hr : Ris xs.toList) (j : Nat) : below xs j <= xs.size /\ (∀ x ∈ xs.toList.take (below xs j), x < j) /\ ∀ x ∈ xs.toList.drop (below xs j), j <= x := by
  obtain ⟨a, b, c⟩ := below_go xs j hr xs.size 0 xs.size (Nat.le_refl _) (Nat.zero_le _) (by lia) (fun k hk => absurd hk (Nat.not_lt_zero k)) (fun k h1 h2 => absurd h1 (by lia))
  refine ⟨a, fun x hx => ?_, fun x hx => ?_⟩
  · obtain ⟨k, hk, rfl⟩ := List.mem_take_iff_getElem.mp hx
    have h1 : k < xs.size := by have := xs.length_toList; lia
    have := b k (by have h2 : k < min (below xs j) xs.toList.length := hk; exact Nat.lt_of_lt_of_le h2 (Nat.min_le_left _ _))
    simpa [Array.getD, h1] using this
  · obtain ⟨k, hk, rfl⟩ := List.mem_drop_iff_getElem.mp hx
    have h1 : below xs j + k < xs.size := by have := xs.length_toList; lia
    have := c (below xs j + k) h1 (Nat.le_add_right _ _)
    simpa [Array.getD, h1] using this
theorem below_at {xs : Array Nat} (hr : Ris xs.toList) {j : Nat} (h : j ∈ xs.toList) : xs[below xs j]? = some j := by
  obtain ⟨a, b, c⟩ := below_is hr j
  rw [<- Array.getElem?_toList]
  have e := List.take_append_drop (below xs j) xs.toList
  have hd : j ∈ xs.toList.drop (below xs j) := by
    rw [<- e] at h
    rcases List.mem_append.mp h with h | h
    · exact absurd (b j h) (Nat.lt_irrefl j)
    · exact h
  have hr2 : Ris (xs.toList.drop (below xs j)) := hr.sublist (List.drop_sublist _ _)
  rw [<- List.head?_drop]
  generalize xs.toList.drop (below xs j) = l at hd hr2 c
  cases l with
  | nil => exact nomatch hd
  | cons y r =>
    rcases List.mem_cons.mp hd with z | z
    · rw [z]; rfl
    · have := (List.pairwise_cons.mp hr2).1 j z
      have := c y List.mem_cons_self
      lia
theorem has_nil (j : Nat) : has #[] j = false := by
  unfold has
  rw [Array.getElem?_eq_none (by simp)]
  rfl
theorem slot_live {t : SetTable} (hr : Ris t.place.toList) {j : Nat} (h : j ∈ t.place.toList) : t.slot j = .live (below t.place j) /\ t.place[below t.place j]? = some j := by
  have e := below_at hr h
  refine ⟨?_, e⟩
  unfold slot
  dsimp only
  rw [e, if_pos (by simp)]
theorem slot_empty {t : SetTable} (hd : t.dummies = #[]) {j : Nat} (h : j ∉ t.place.toList) : t.slot j = .empty := by
  unfold slot
  dsimp only
  rw [if_neg, hd, has_nil, if_neg (by simp)]
  intro z
  have := eq_of_beq z
  rw [<- Array.getElem?_toList] at this
  exact h (List.mem_of_getElem? this)
def adv (m : Nat) (p : Probe) : Probe :=
  if p.more > 0 then { p with j := p.j + 1, more := p.more - 1 } else
  let (i, perturb) := leap m p.i p.perturb
  { p with j := i, more := runEnd m i - i, i, perturb }
def wstart (m : Nat) (h : Int) : Probe := { j := bits h % (m + 1), more := runEnd m (bits h % (m + 1)) - bits h % (m + 1), i := bits h % (m + 1), perturb := bits h, dummy := none }
def way (m : Nat) (h : Int) : Nat -> Probe
  | 0 => wstart m h
  | n + 1 => adv m (way m h n)
theorem way_no (m : Nat) (h : Int) : ∀ n, (way m h n).dummy = none
  | 0 => rfl
  | n + 1 => by
    show (adv m (way m h n)).dummy = none
    unfold adv
    split
    · exact way_no m h n
    · exact way_no m h n
def runs (m : Nat) (h : Int) : Nat -> Nat × Nat
  | 0 => (bits h % (m + 1), bits h)
  | k + 1 => leap m (runs m h k).1 (runs m h k).2
theorem run_walk (m : Nat) (h : Int) : ∀ (d n j i p : Nat), way m h n = ⟨j, d, i, p, none⟩ -> ∀ e, e <= d -> way m h (n + e) = ⟨j + e, d - e, i, p, none⟩
  | d, n, j, i, p, hw, 0, _ => hw
  | d, n, j, i, p, hw, e + 1, he => by
    have := run_walk m h d n j i p hw e (by lia)
    show adv m (way m h (n + e)) = _
    rw [this]
    unfold adv
    rw [if_pos (by show d - e > 0; lia)]
    dsimp only
    rw [show d - e - 1 = d - (e + 1) by lia]
    rfl
theorem runEnd_le (m i : Nat) : runEnd m i - i <= 9 := by unfold runEnd; split <;> lia
theorem run_at (m : Nat) (h : Int) : ∀ k, ∃ n, n <= 10 * k /\ way m h n = ⟨(runs m h k).1, runEnd m (runs m h k).1 - (runs m h k).1, (runs m h k).1, (runs m h k).2, none⟩
  | 0 => ⟨0, Nat.le_refl _, rfl⟩
  | k + 1 => by
    obtain ⟨n, hn, e⟩ := run_at m h k
    have le := runEnd_le m (runs m h k).1
    have w := run_walk m h _ n _ _ _ e _ (Nat.le_refl _)
    refine ⟨n + (runEnd m (runs m h k).1 - (runs m h k).1) + 1, by lia, ?_⟩
    show adv m (way m h (n + _)) = _
    rw [w]
    unfold adv
    rw [if_neg (by show ¬ (_ - _ > 0); lia)]
    rfl
theorem bits_lt (h : Int) : bits h < 2 ^ 64 := by
  unfold bits
  have a := Int.emod_lt_of_pos h (show (0 : Int) < 2 ^ 64 by decide)
  have b := Int.emod_nonneg h (show (2 ^ 64 : Int) ≠ 0 by decide)
  lia
theorem runs_snd (m : Nat) (h : Int) : ∀ k, (runs m h k).2 = bits h / 32 ^ k
  | 0 => by simp [runs]
  | k + 1 => by
    show (runs m h k).2 / 32 = _
    rw [runs_snd m h k, Nat.div_div_eq_div_mul, Nat.pow_succ]
theorem runs_late (m : Nat) (h : Int) (k : Nat) (hk : 13 <= k) : (runs m h k).2 = 0 := by
  rw [runs_snd]
  refine Nat.div_eq_of_lt (Nat.lt_of_lt_of_le (bits_lt h) ?_)
  exact Nat.le_trans (by decide) (Nat.pow_le_pow_right (by decide) hk)
def nx (m i : Nat) : Nat := (i * 5 + 1) % (m + 1)
def nxs (m s : Nat) : Nat -> Nat
  | 0 => s
  | k + 1 => nx m (nxs m s k)
theorem nxs_add (m s a : Nat) : ∀ b, nxs m s (a + b) = nxs m (nxs m s a) b
  | 0 => rfl
  | b + 1 => by show nx m (nxs m s (a + b)) = nx m (nxs m (nxs m s a) b); rw [nxs_add m s a b]
theorem runs_nx (m : Nat) (h : Int) : ∀ k, (runs m h (13 + k)).1 = nxs m (runs m h 13).1 k
  | 0 => rfl
  | k + 1 => by
    show (leap m (runs m h (13 + k)).1 (runs m h (13 + k)).2).1 = nx m (nxs m (runs m h 13).1 k)
    rw [<- runs_nx m h k, runs_late m h (13 + k) (by lia)]
    rfl
def orb (m : Nat) : Nat -> Nat -> List Nat
  | 0, _ => []
  | k + 1, s => s :: orb m k (nx m s)
theorem orb_at (m : Nat) : ∀ (k s j : Nat), j ∈ orb m k s -> ∃ e, e < k /\ nxs m s e = j
  | 0, _, _, h => nomatch h
  | k + 1, s, j, h => by
    rcases List.mem_cons.mp h with z | z
    · exact ⟨0, by lia, z.symm⟩
    · obtain ⟨e, he, q⟩ := orb_at m k (nx m s) j z
      refine ⟨e + 1, by lia, ?_⟩
      rw [Nat.add_comm, nxs_add]
      exact q
def Full (m : Nat) : Prop := m % 2 = 1 /\ nxs m 0 (m + 1) = 0 /\ ∀ j, j <= m -> ∃ e, e <= m /\ nxs m 0 e = j
theorem full_of {m : Nat} (h0 : m % 2 = 1) (h1 : nxs m 0 (m + 1) = 0) (h2 : ((List.range (m + 1)).all fun j => (orb m (m + 1) 0).contains j) = true) : Full m := by
  refine ⟨h0, h1, fun j hj => ?_⟩
  have := List.all_eq_true.mp h2 j (List.mem_range.mpr (by lia))
  obtain ⟨e, he, q⟩ := orb_at m (m + 1) 0 j (List.contains_iff_mem.mp this)
  exact ⟨e, by lia, q⟩
theorem full7 : Full 7 := full_of rfl (by decide +kernel) (by decide +kernel)
theorem full31 : Full 31 := full_of rfl (by decide +kernel) (by decide +kernel)
theorem full127 : Full 127 := full_of rfl (by decide +kernel) (by decide +kernel)
theorem full511 : Full 511 := full_of rfl (by decide +kernel) (by decide +kernel)
theorem runs_le (m : Nat) (h : Int) : ∀ k, (runs m h k).1 <= m
  | 0 => Nat.le_of_lt_succ (Nat.mod_lt _ (Nat.succ_pos m))
  | k + 1 => Nat.le_of_lt_succ (Nat.mod_lt _ (Nat.succ_pos m))
theorem runs_all {m : Nat} (F : Full m) (h : Int) (j : Nat) (hj : j <= m) : ∃ k, k <= m + 14 /\ (runs m h k).1 = j := by
  obtain ⟨_, z, al⟩ := F
  obtain ⟨a, ha, ea⟩ := al (runs m h 13).1 (runs_le m h 13)
  obtain ⟨b, hb, eb⟩ := al j hj
  by_cases c : a <= b
  · refine ⟨13 + (b - a), by lia, ?_⟩
    rw [runs_nx, <- ea, <- nxs_add, show a + (b - a) = b by lia, eb]
  · refine ⟨13 + (m + 1 + b - a), by lia, ?_⟩
    rw [runs_nx, <- ea, <- nxs_add, show a + (m + 1 + b - a) = m + 1 + b by lia, nxs_add, z, eb]
theorem way_all {m : Nat} (F : Full m) (h : Int) (j : Nat) (hj : j <= m) : ∃ n, n <= 10 * (m + 14) /\ (way m h n).j = j := by
  obtain ⟨k, hk, e⟩ := runs_all F h j hj
  obtain ⟨n, hn, w⟩ := run_at m h k
  exact ⟨n, by lia, by rw [w]; exact e⟩
theorem least (P : Nat -> Prop) : ∀ n, P n -> ∃ k, k <= n /\ P k /\ ∀ i, i < k -> ¬ P i := fun n => by
  induction n using Nat.strongRecOn with
  | _ n ih =>
    intro h
    by_cases c : ∃ i, i < n /\ P i
    · obtain ⟨i, hi, q⟩ := c
      obtain ⟨k, hk, r⟩ := ih i hi q
      exact ⟨k, by lia, r⟩
    · exact ⟨n, Nat.le_refl _, h, fun i hi z => c ⟨i, hi, z⟩⟩
theorem pigeon : ∀ (n : Nat) (l : List Nat), (∀ j, j < n -> j ∈ l) -> n <= l.length
  | 0, _, _ => Nat.zero_le _
  | n + 1, l, h => by
    have hn := h n (Nat.lt_succ_self n)
    have := pigeon n (l.erase n) fun j hj => (List.mem_erase_of_ne (Nat.ne_of_lt hj)).mpr (h j (Nat.lt_succ_of_lt hj))
    have e := List.length_erase_of_mem hn
    have : 0 < l.length := List.length_pos_of_mem hn
    lia
theorem first_free {m : Nat} (F : Full m) (h : Int) {l : List Nat} (hl : l.length <= m) : ∃ N, N <= 10 * (m + 14) /\ (way m h N).j ∉ l /\ ∀ k, k < N -> (way m h k).j ∈ l := by
  have ex : ∃ j, j <= m /\ j ∉ l := by
    refine Classical.byContradiction fun hn => ?_
    have := pigeon (m + 1) l fun j hj => Classical.byContradiction fun z => hn ⟨j, by lia, z⟩
    lia
  obtain ⟨j, hj, nj⟩ := ex
  obtain ⟨n, hn, e⟩ := way_all F h j hj
  obtain ⟨N, h1, h2, h3⟩ := least (fun k => (way m h k).j ∉ l) n (by rw [e]; exact nj)
  exact ⟨N, by lia, h2, fun k hk => Classical.byContradiction fun z => h3 k hk z⟩
theorem way_le {m : Nat} (h : Int) : ∀ n, (way m h n).j + (way m h n).more <= m /\ (way m h n).i <= m
  | 0 => by
    show bits h % (m + 1) + (runEnd m (bits h % (m + 1)) - bits h % (m + 1)) <= m /\ bits h % (m + 1) <= m
    have := Nat.mod_lt (bits h) (Nat.succ_pos m)
    unfold runEnd
    constructor
    · split <;> lia
    · lia
  | n + 1 => by
    obtain ⟨a, b⟩ := way_le (m := m) h n
    show (adv m (way m h n)).j + (adv m (way m h n)).more <= m /\ (adv m (way m h n)).i <= m
    unfold adv
    split
    · dsimp only
      constructor
      · lia
      · exact b
    · have := Nat.mod_lt ((way m h n).i * 5 + 1 + (way m h n).perturb / 32) (Nat.succ_pos m)
      unfold leap
      dsimp only
      unfold runEnd
      constructor
      · split <;> lia
      · lia
def Reach (m : Nat) (l : List Nat) (h : Int) (j : Nat) : Prop := ∃ n, (way m h n).j = j /\ ∀ k, k < n -> (way m h k).j ∈ l
theorem Reach.more {m : Nat} {l l' : List Nat} {h : Int} {j : Nat} (r : Reach m l h j) (s : ∀ x ∈ l, x ∈ l') : Reach m l' h j := by
  obtain ⟨n, e, a⟩ := r
  exact ⟨n, e, fun k hk => s _ (a k hk)⟩
end L2
namespace L2
open PySem PySem.SetTable
def lv (m : Nat) (o : Array (Option Nat)) : List (Nat × Nat) := (List.range (m + 1)).filterMap fun j => (o.getD j none).map (j, ·)
theorem lv_mem {m : Nat} {o : Array (Option Nat)} {j e : Nat} : (j, e) ∈ lv m o ↔ j <= m /\ o.getD j none = some e := by
  unfold lv
  rw [List.mem_filterMap]
  constructor
  · rintro ⟨i, hi, q⟩
    cases h : o.getD i none with
    | none => rw [h] at q; cases q
    | some e' =>
      rw [h] at q
      have : (i, e') = (j, e) := Option.some.inj q
      injection this with a b
      subst a b
      exact ⟨Nat.le_of_lt_succ (List.mem_range.mp hi), h⟩
  · rintro ⟨h1, h2⟩
    exact ⟨j, List.mem_range.mpr (Nat.lt_succ_of_le h1), by rw [h2]; rfl⟩
theorem lv_fst {m : Nat} {o : Array (Option Nat)} {j : Nat} : j ∈ (lv m o).map (·.1) ↔ j <= m /\ (o.getD j none).isSome = true := by
  rw [List.mem_map]
  constructor
  · rintro ⟨⟨a, e⟩, h, rfl⟩
    obtain ⟨h1, h2⟩ := lv_mem.mp h
    exact ⟨h1, by rw [h2]; rfl⟩
  · rintro ⟨h1, h2⟩
    obtain ⟨e, he⟩ := Option.isSome_iff_exists.mp h2
    exact ⟨(j, e), lv_mem.mpr ⟨h1, he⟩, rfl⟩
theorem lv_ris (m : Nat) (o : Array (Option Nat)) : Ris ((lv m o).map (·.1)) := by
  unfold lv
  rw [List.map_filterMap]
  refine List.Pairwise.filterMap _ ?_ (List.pairwise_lt_range (n := m + 1))
  intro a a' h b hb b' hb'
  have ea : ∀ {i c : Nat}, ((o.getD i none).map (i, ·)).map (·.1) = some c -> c = i := fun {i c} z => by
    cases q : o.getD i none with
    | none => rw [q] at z; cases z
    | some e => rw [q] at z; exact (Option.some.inj z).symm
  rw [ea hb, ea hb']
  exact h
theorem lv_set {m : Nat} {o : Array (Option Nat)} {j k : Nat} (hs : o.size = m + 1) (hj : j <= m) (hn : o.getD j none = none) : (lv m (o.setIfInBounds j (some k))).Perm ((j, k) :: lv m o) := by
  have nd : ∀ o : Array (Option Nat), (lv m o).Nodup := fun o => by
    have := lv_ris m o
    have h2 : ((lv m o).map (·.1)).Nodup := this.imp fun h => Nat.ne_of_lt h
    exact (List.pairwise_map.mp h2).imp fun h e => h (by rw [e])
  refine (List.perm_ext_iff_of_nodup (nd _) (List.nodup_cons.mpr ⟨fun z => ?_, nd o⟩)).mpr ?_
  · rw [lv_mem, hn] at z
    exact nomatch z.2
  · rintro ⟨a, e⟩
    rw [List.mem_cons, lv_mem, lv_mem]
    have eg : (o.setIfInBounds j (some k)).getD a none = if a = j then some k else o.getD a none := by
      by_cases c : a = j
      · rw [if_pos c, c]
        simp [Array.getD, hs, Nat.lt_succ_of_le hj]
      · rw [if_neg c]
        by_cases c2 : a < o.size
        · simp [Array.getD, c2, Array.getElem_setIfInBounds, Ne.symm c]
        · simp [Array.getD, c2]
    rw [eg]
    by_cases c : a = j
    · rw [if_pos c]
      subst c
      constructor
      · rintro ⟨_, z⟩
        left
        rw [Option.some.inj z]
      · rintro (z | ⟨_, z⟩)
        · injection z with _ z
          exact ⟨hj, by rw [z]⟩
        · rw [hn] at z; cases z
    · rw [if_neg c]
      constructor
      · intro z; exact .inr z
      · rintro (z | z)
        · injection z with z _; exact absurd z c
        · exact z
theorem free_ok {m : Nat} {h : Int} {o : Array (Option Nat)} (hs : o.size = m + 1) : ∀ (f r n : Nat), way m h n = ⟨(runs m h r).1, runEnd m (runs m h r).1 - (runs m h r).1, (runs m h r).1, (runs m h r).2, none⟩ -> (∀ k, k < n -> (way m h k).j ∈ (lv m o).map (·.1)) ->
    (∃ r', r <= r' /\ r' < r + f /\ (runs m h r').1 ∉ (lv m o).map (·.1)) -> ∃ N, layClean.free m o f (runs m h r).1 (runs m h r).2 = some (way m h N).j /\ (way m h N).j ∉ (lv m o).map (·.1) /\ ∀ k, k < N -> (way m h k).j ∈ (lv m o).map (·.1)
  | 0, r, n, _, _, ⟨r', a, b, _⟩ => by lia
  | f + 1, r, n, hw, hk, ⟨r', a, b, c⟩ => by
    have bound : ∀ k, k < runEnd m (runs m h r).1 + 1 - (runs m h r).1 -> (way m h (n + k)).j = (runs m h r).1 + k /\ (runs m h r).1 + k <= m := fun k hk' => by
      have := run_walk m h _ n _ _ _ hw k (by lia)
      have e := way_le (m := m) h (n + k)
      rw [this] at e ⊢
      exact ⟨rfl, by have := e.1; dsimp only at this; lia⟩
    have tk : ∀ j, j <= m -> ((o.getD j (some 0)).isNone = false ↔ j ∈ (lv m o).map (·.1)) := fun j hj => by
      rw [lv_fst]
      have lt : j < o.size := by lia
      have e : o.getD j (some 0) = o.getD j none := by simp [Array.getD, lt]
      rw [e]
      cases o.getD j none with
      | none => simp
      | some z => simp [hj]
    unfold layClean.free
    cases hf : (List.range (runEnd m (runs m h r).1 + 1 - (runs m h r).1)).find? fun k => (o.getD ((runs m h r).1 + k) (some 0)).isNone with
    | some k =>
      obtain ⟨p1, p2, p3⟩ := List.find?_range_eq_some.mp hf
      obtain ⟨b1, b2⟩ := bound k (List.mem_range.mp p2)
      refine ⟨n + k, by rw [b1], ?_, fun i hi => ?_⟩
      · rw [b1, <- tk _ b2, p1]
        exact Bool.noConfusion
      · by_cases ci : i < n
        · exact hk i ci
        · have := p3 (i - n) (by lia)
          obtain ⟨c1, c2⟩ := bound (i - n) (by have := List.mem_range.mp p2; lia)
          rw [show n + (i - n) = i by lia] at c1
          rw [c1, <- tk _ c2]
          simpa using this
    | none =>
      have hn := List.find?_range_eq_none.mp hf
      have le0 : (runs m h r).1 <= runEnd m (runs m h r).1 := by unfold runEnd; split <;> lia
      have w := run_walk m h _ n _ _ _ hw _ (Nat.le_refl _)
      have ne : r ≠ r' := fun z => by
        subst z
        have h0 := hn 0 (by lia)
        refine c ((tk _ (runs_le m h r)).mp ?_)
        simpa using h0
      have := free_ok hs f (r + 1) (n + (runEnd m (runs m h r).1 - (runs m h r).1) + 1) (by
        show adv m (way m h (n + _)) = _
        rw [w]
        unfold adv
        rw [if_neg (by show ¬ (_ - _ > 0); lia)]
        rfl) (fun k hk' => by
          by_cases ci : k < n
          · exact hk k ci
          · have h0 := hn (k - n) (by lia)
            obtain ⟨c1, c2⟩ := bound (k - n) (by lia)
            rw [show n + (k - n) = k by lia] at c1
            rw [c1, <- tk _ c2]
            simpa using h0) ⟨r', by lia, by lia, c⟩
      exact this
structure Laid (m : Nat) (hs : List Int) (o : Array (Option Nat)) : Prop where
  sz : o.size = m + 1
  all : ((lv m o).map (·.2)).Perm (List.range hs.length)
  reach : ∀ q ∈ lv m o, Reach m ((lv m o).map (·.1)) (hs.getD q.2 0) q.1
theorem lay_step {m : Nat} (F : Full m) {hs : List Int} {o : Array (Option Nat)} (L : Laid m hs o) (hl : hs.length <= m) (h : Int) : ∃ j, layClean.free m o (turns m) (bits h % (m + 1)) (bits h) = some j /\ Laid m (hs ++ [h]) (o.setIfInBounds j (some hs.length)) := by
  have ll : ((lv m o).map (·.1)).length = hs.length := by
    have := L.all.length_eq
    rw [List.length_map, List.length_range] at this
    rw [List.length_map, this]
  have ex : ∃ j, j <= m /\ j ∉ (lv m o).map (·.1) := by
    refine Classical.byContradiction fun hn => ?_
    have := pigeon (m + 1) ((lv m o).map (·.1)) fun j hj => Classical.byContradiction fun z => hn ⟨j, by lia, z⟩
    lia
  obtain ⟨j0, h0, n0⟩ := ex
  obtain ⟨k, hk, e⟩ := runs_all F h j0 h0
  obtain ⟨N, f1, f2, f3⟩ := free_ok L.sz (h := h) (turns m) 0 0 rfl (fun k hk => absurd hk (Nat.not_lt_zero k)) ⟨k, Nat.zero_le _, by unfold turns; lia, by rw [e]; exact n0⟩
  refine ⟨(way m h N).j, f1, ?_⟩
  have le : (way m h N).j <= m := by have := (way_le (m := m) h N).1; lia
  have nn : o.getD (way m h N).j none = none := by
    cases q : o.getD (way m h N).j none with
    | none => rfl
    | some e => exact absurd (lv_fst.mpr ⟨le, by rw [q]; rfl⟩) f2
  have pm := lv_set (k := hs.length) L.sz le nn
  have sub : ∀ x ∈ (lv m o).map (·.1), x ∈ (lv m (o.setIfInBounds (way m h N).j (some hs.length))).map (·.1) := fun x hx => (pm.map (·.1)).mem_iff.mpr (List.mem_cons_of_mem _ hx)
  refine ⟨by rw [Array.size_setIfInBounds]; exact L.sz, ?_, fun q hq => ?_⟩
  · refine (pm.map (·.2)).trans ?_
    rw [List.length_append, List.length_singleton, List.range_succ]
    exact (List.Perm.cons _ L.all).trans (List.perm_append_comm (l₁ := [hs.length]))
  · rcases List.mem_cons.mp (pm.mem_iff.mp hq) with z | z
    · subst z
      dsimp only
      have : (hs ++ [h]).getD hs.length 0 = h := by simp
      rw [this]
      exact ⟨N, rfl, fun k hk => sub _ (f3 k hk)⟩
    · have lt : q.2 < hs.length := by
        have := L.all.mem_iff.mp (List.mem_map_of_mem (f := (·.2)) z)
        exact List.mem_range.mp this
      have : (hs ++ [h]).getD q.2 0 = hs.getD q.2 0 := by simp [List.getElem?_append_left lt]
      rw [this]
      exact (L.reach q z).more sub
theorem lay_all {m : Nat} (F : Full m) : ∀ (rest hs : List Int) (o : Array (Option Nat)), Laid m hs o -> hs.length + rest.length <= m + 1 -> ∃ o', rest.foldl (init := some (o, hs.length)) (fun acc h => do
    let (owner, k) <- acc
    let j <- layClean.free m owner (turns m) (bits h % (m + 1)) (bits h)
    pure (owner.setIfInBounds j (some k), k + 1)) = some (o', hs.length + rest.length) /\ Laid m (hs ++ rest) o'
  | [], hs, o, L, _ => ⟨o, rfl, by rw [List.append_nil]; exact L⟩
  | h :: rest, hs, o, L, le => by
    rw [List.length_cons] at le
    obtain ⟨j, f, L2⟩ := lay_step F L (by lia) h
    obtain ⟨o', e, L3⟩ := lay_all F rest (hs ++ [h]) _ L2 (by rw [List.length_append, List.length_singleton]; lia)
    refine ⟨o', ?_, by rw [List.append_assoc] at L3; exact L3⟩
    rw [List.foldl_cons]
    show List.foldl _ (do let j <- layClean.free m o (turns m) (bits h % (m + 1)) (bits h); pure (o.setIfInBounds j (some hs.length), hs.length + 1)) rest = _
    rw [f]
    rw [List.length_append, List.length_singleton] at e
    rw [List.length_cons, show hs.length + (rest.length + 1) = hs.length + 1 + rest.length by lia]
    exact e
theorem laid_nil (m : Nat) : Laid m [] (Array.replicate (m + 1) none) := by
  have e : lv m (Array.replicate (m + 1) none) = [] := by
    refine List.eq_nil_iff_forall_not_mem.mpr fun q hq => ?_
    obtain ⟨_, z⟩ := lv_mem.mp hq
    have : (Array.replicate (m + 1) (none : Option Nat)).getD q.1 none = none := by
      by_cases c : q.1 < m + 1
      · simp [Array.getD, c]
      · simp [Array.getD, c]
    rw [this] at z
    cases z
  refine ⟨by simp, by rw [e]; exact .refl _, fun q hq => ?_⟩
  rw [e] at hq
  exact nomatch hq
theorem laid_ok {m : Nat} (F : Full m) (finger moves : Nat) (led plain : Bool) (hashes : Array Int) (hl : hashes.size <= m + 1) : ∃ l : List (Nat × Nat), SetTable.laid m finger moves led plain hashes = some ({ mask := m, place := (l.map (·.1)).toArray, dummies := #[], finger, led, moves, plain }, (l.map (·.2)).toArray) /\
    Ris (l.map (·.1)) /\ (l.map (·.2)).Perm (List.range hashes.size) /\ ∀ q ∈ l, Reach m (l.map (·.1)) (hashes.toList.getD q.2 0) q.1 := by
  obtain ⟨o, e, L⟩ := lay_all F hashes.toList [] _ (laid_nil m) (by simpa using hl)
  rw [List.nil_append] at L
  refine ⟨lv m o, ?_, lv_ris m o, by simpa using L.all, L.reach⟩
  unfold SetTable.laid layClean
  rw [<- Array.foldl_toList]
  rw [List.length_nil, Nat.zero_add] at e
  rw [e]
  rfl
end L2
namespace L2
open PySem PySem.SetTable
structure SetI (t : SetTable) (es : Array (Int × Value)) : Prop where
  msk : t.mask = 7 \/ t.mask = 31 \/ t.mask = 127 \/ t.mask = 511
  dum : t.dummies = #[]
  ris : Ris t.place.toList
  len : t.place.size = es.size
  few : es.size * 5 < t.mask * 3
  reach : ∀ q ∈ t.place.toList.zip es.toList, Reach t.mask t.place.toList q.2.1 q.1
  plain : t.plain = true
theorem SetI.full {t : SetTable} {es : Array (Int × Value)} (T : SetI t es) : Full t.mask := by
  rcases T.msk with e | e | e | e <;> rw [e]
  · exact full7
  · exact full31
  · exact full127
  · exact full511
theorem fits_of {t : SetTable} {n : Nat} (h1 : t.place.size = n) (h2 : t.dummies = #[]) (h3 : n <= t.mask) : t.fits n = true := by
  unfold SetTable.fits SetTable.fill
  rw [h1, h2]
  simp [h3]
theorem SetI.fits {t : SetTable} {es : Array (Int × Value)} (T : SetI t es) : t.fits es.size = true := fits_of T.len T.dum (by have := T.few; lia)
theorem SetI.fresh (f m : Nat) (led : Bool) : SetI (.fresh f m led) #[] := ⟨.inl rfl, rfl, .nil, rfl, by show 0 * 5 < 7 * 3; decide, (fun q hq => nomatch hq), rfl⟩
theorem probe_go {t : SetTable} (hd : t.dummies = #[]) (hr : Ris t.place.toList) (ha : Nat -> Int) (h : Int) {N : Nat} (hN : (way t.mask h N).j ∉ t.place.toList) (hk : ∀ k, k < N -> (way t.mask h k).j ∈ t.place.toList) :
    ∀ (f n : Nat), n <= N -> N - n < f ->
      (∃ k i, n <= k /\ k < N /\ t.place[i]? = some (way t.mask h k).j /\ t.slot (way t.mask h k).j = .live i /\ ha i = h /\ probe.go t ha h f (way t.mask h n) = some (.candidate (way t.mask h k).j i (way t.mask h (k + 1))) /\
        ∀ m, n <= m -> m < k -> ∀ i, t.place[i]? = some (way t.mask h m).j -> i < t.place.size -> ha (below t.place (way t.mask h m).j) ≠ h) \/
      (probe.go t ha h f (way t.mask h n) = some (.empty (way t.mask h N).j none) /\ ∀ m, n <= m -> m < N -> ha (below t.place (way t.mask h m).j) ≠ h)
  | 0, n, _, h2 => by lia
  | f + 1, n, h1, h2 => by
    unfold probe.go
    by_cases c : n = N
    · subst c
      rw [slot_empty hd hN]
      exact .inr ⟨by rw [way_no], fun m a b => by lia⟩
    · obtain ⟨sl, pl⟩ := slot_live hr (hk n (by lia))
      rw [sl]
      dsimp only
      by_cases e : ha (below t.place (way t.mask h n).j) = h
      · rw [if_pos (by rw [e]; exact beq_self_eq_true h)]
        exact .inl ⟨n, _, Nat.le_refl _, by lia, pl, sl, e, rfl, fun m a b => by lia⟩
      · rw [if_neg (by simpa using e)]
        show (∃ k i, _ /\ _ /\ _ /\ _ /\ _ /\ probe.go t ha h f (way t.mask h (n + 1)) = _ /\ _) \/ (probe.go t ha h f (way t.mask h (n + 1)) = _ /\ _)
        rcases probe_go hd hr ha h hN hk f (n + 1) (by lia) (by lia) with ⟨k, i, a1, a2, a3, a4, a5, a6, a7⟩ | ⟨a1, a2⟩
        · refine .inl ⟨k, i, by lia, a2, a3, a4, a5, a6, fun m b1 b2 => ?_⟩
          by_cases e2 : m = n
          · subst e2; exact fun _ _ _ => e
          · exact a7 m (by lia) b2
        · refine .inr ⟨a1, fun m b1 b2 => ?_⟩
          by_cases e2 : m = n
          · subst e2; exact e
          · exact a2 m (by lia) b2
section
variable {prog : Program} {w : World} {A : Around} {E : Value -> Shared -> Prop} {s : Shared}
end
end L2
namespace L2
open PySem PySem.SetTable
section
variable {prog : Program} {w : World} {A : Around} {E : Value -> Shared -> Prop} {s : Shared} {a b : Addr} {o : Obj} {es : Array (Int × Value)} {ep : Nat} {t : SetTable} {kx : List Int}
end
end L2
namespace L2
open PySem PySem.SetTable PyProof.Rows
theorem zip_ins {α β : Type} (l : List α) (m : List β) (n : Nat) (h : l.length = m.length) (x : α) (y : β) : (l.take n ++ x :: l.drop n).zip (m.take n ++ y :: m.drop n) = (l.zip m).take n ++ (x, y) :: (l.zip m).drop n := by
  rw [List.zip_append (by rw [List.length_take, List.length_take, h]), List.zip_cons_cons]
  congr 1
  · rw [List.zip_eq_zipWith, List.zip_eq_zipWith, List.take_zipWith]
  · rw [List.zip_eq_zipWith, List.zip_eq_zipWith, List.drop_zipWith]
theorem mem_ins {α : Type} {l : List α} {n : Nat} {x y : α} : y ∈ l.take n ++ x :: l.drop n ↔ y = x \/ y ∈ l := by
  have e := List.take_append_drop n l
  constructor
  · intro h
    rcases List.mem_append.mp h with h | h
    · exact .inr (List.mem_of_mem_take h)
    · rcases List.mem_cons.mp h with h | h
      · exact .inl h
      · exact .inr (List.mem_of_mem_drop h)
  · rintro (h | h)
    · rw [h]; exact List.mem_append.mpr (.inr List.mem_cons_self)
    · rw [<- e] at h
      rcases List.mem_append.mp h with h | h
      · exact List.mem_append.mpr (.inl h)
      · exact List.mem_append.mpr (.inr (List.mem_cons_of_mem _ h))
theorem put_is {t : SetTable} (hd : t.dummies = #[]) (j : Nat) : t.put j = ({ t with place := insertAt t.place (below t.place j) j }, below t.place j) := by
  unfold SetTable.put
  dsimp only
  rw [hd, has_nil]
  simp only [Bool.false_eq_true, if_false]
theorem put_ok {t : SetTable} {es : Array (Int × Value)} (T : SetI t es) {h : Int} {N : Nat} (hN : (way t.mask h N).j ∉ t.place.toList) (hk : ∀ k, k < N -> (way t.mask h k).j ∈ t.place.toList) (x : Value) :
    Ris (insertAt t.place (below t.place (way t.mask h N).j) (way t.mask h N).j).toList /\ ∀ q ∈ (insertAt t.place (below t.place (way t.mask h N).j) (way t.mask h N).j).toList.zip (insertAt es (below t.place (way t.mask h N).j) (h, x)).toList,
      Reach t.mask (insertAt t.place (below t.place (way t.mask h N).j) (way t.mask h N).j).toList q.2.1 q.1 := by
  rw [SetTable.toList_insertAt, SetTable.toList_insertAt]
  obtain ⟨a, b, c⟩ := below_is T.ris (way t.mask h N).j
  have ll : t.place.toList.length = es.toList.length := by rw [Array.length_toList, Array.length_toList, T.len]
  refine ⟨?_, fun q hq => ?_⟩
  · refine List.pairwise_append.mpr ⟨T.ris.sublist (List.take_sublist _ _), List.pairwise_cons.mpr ⟨fun y hy => ?_, T.ris.sublist (List.drop_sublist _ _)⟩, fun x hx y hy => ?_⟩
    · have := c y hy
      have ne : y ≠ (way t.mask h N).j := fun z => hN (by rw [<- z]; exact List.mem_of_mem_drop hy)
      lia
    · rcases List.mem_cons.mp hy with rfl | hy
      · exact b x hx
      · exact Nat.lt_of_lt_of_le (b x hx) (c y hy)
  · rw [zip_ins _ _ _ ll] at hq
    have sub : ∀ y ∈ t.place.toList, y ∈ t.place.toList.take (below t.place (way t.mask h N).j) ++ (way t.mask h N).j :: t.place.toList.drop (below t.place (way t.mask h N).j) := fun y hy => mem_ins.mpr (.inr hy)
    rcases mem_ins.mp hq with rfl | hq
    · exact ⟨N, rfl, fun k h' => sub _ (hk k h')⟩
    · exact (T.reach q hq).more sub
theorem relay_ok {t : SetTable} {es : Array (Int × Value)} {wd m : Nat} (F : m = 7 \/ m = 31 \/ m = 127 \/ m = 511) (hw : sizeAbove wd - 1 = m) (few : es.size * 5 < m * 3) (pl : t.plain = true) :
    ∃ t2 order, t.relaid (es.map (·.1)) wd = some (t2, order) /\ (order.filterMap (es[·]?)).size = es.size /\ (order.filterMap (es[·]?)).toList.Perm es.toList /\ SetI t2 (order.filterMap (es[·]?)) /\ t2.led = t.led := by
  have FF : Full m := by
    rcases F with e | e | e | e <;> rw [e]
    · exact full7
    · exact full31
    · exact full127
    · exact full511
  obtain ⟨l, e1, e2, e3, e4⟩ := laid_ok FF t.finger (t.movedTo m) t.led t.plain (es.map (·.1)) (by rw [Array.size_map]; lia)
  rw [Array.size_map] at e3
  have lt : ∀ q ∈ l, q.2 < es.size := fun q hq => List.mem_range.mp (e3.mem_iff.mp (List.mem_map_of_mem hq))
  have fm : ∀ l' : List (Nat × Nat), (∀ q ∈ l', q.2 < es.size) -> (l'.map (·.2)).filterMap (es[·]?) = l'.map fun q => es.getD q.2 (0, .none) := fun l' => by
    induction l' with
    | nil => intro _; rfl
    | cons q l' ih =>
      intro hq
      have h0 := hq q List.mem_cons_self
      rw [List.map_cons, List.map_cons, List.filterMap_cons, Array.getElem?_eq_getElem h0]
      dsimp only
      rw [ih fun r hr => hq r (List.mem_cons_of_mem _ hr)]
      simp [Array.getD, h0]
  have el : (((l.map (·.2)).toArray).filterMap (es[·]?)).toList = l.map fun q => es.getD q.2 (0, .none) := by
    rw [Array.toList_filterMap]
    exact fm l lt
  have ll : l.length = es.size := by
    have := e3.length_eq
    rw [List.length_map, List.length_range] at this
    exact this
  have sz : (((l.map (·.2)).toArray).filterMap (es[·]?)).size = es.size := by
    rw [<- Array.length_toList, el, List.length_map, ll]
  refine ⟨{ mask := m, place := (l.map (·.1)).toArray, dummies := #[], finger := t.finger, led := t.led, moves := t.movedTo m, plain := t.plain }, _, by unfold SetTable.relaid; rw [hw]; exact e1, sz, ?_, ⟨F, rfl, e2, ?_, by rw [sz]; exact few, ?_, pl⟩, rfl⟩
  · rw [el]
    have p2 := e3.map fun i => es.getD i (0, .none)
    rw [List.map_map] at p2
    refine p2.trans (List.Perm.of_eq ?_)
    apply List.ext_getElem
    · simp
    · intro i h1 h2
      simp at h1
      simp [Array.getD, h1]
  · show (l.map (·.1)).toArray.size = _
    rw [sz, List.size_toArray, List.length_map, ll]
  · intro q hq
    rw [el] at hq
    have zz : ∀ l' : List (Nat × Nat), (l'.map (·.1)).zip (l'.map fun q => es.getD q.2 (0, Value.none)) = l'.map fun q => (q.1, es.getD q.2 (0, Value.none)) := fun l' => by
      induction l' with
      | nil => rfl
      | cons a l' ih => rw [List.map_cons, List.map_cons, List.zip_cons_cons, ih, List.map_cons]
    have hq' : q ∈ (l.map (·.1)).zip (l.map fun q => es.getD q.2 (0, Value.none)) := hq
    rw [zz] at hq'
    obtain ⟨r, hr, rfl⟩ := List.mem_map.mp hq'
    have := e4 r hr
    have h0 := lt r hr
    have eh : (es.map (·.1)).toList.getD r.2 0 = (es.getD r.2 (0, Value.none)).1 := by simp [Array.getD, h0]
    rw [eh] at this
    exact this
section
variable {prog : Program} {w : World} {G : Value -> List Int -> Prop} {A : Around} {E : Value -> Shared -> Prop} {s : Shared} {a b : Addr} {led : Bool} {kss : List (List Int)} {kx : List Int}
end
end L2
namespace L2
open PySem PySem.Spec PyProof.Rows
section
variable {prog : Program} {w : World} {A : Around} {R : Result -> Shared -> Prop} {I : Addr} {fp wr : List Addr} {G : Array GenState -> Array GenState -> Prop} {n : Nat} {P : Nat -> Value -> Prop} {St : Nat -> Shared -> Prop}
end
section
variable {prog : Program} {w : World} {A : Around} {E : Value -> Shared -> Prop} {s : Shared}
set_option maxHeartbeats 8000000 in
end
end L2
namespace L2
open PySem PySem.W PyProof.Rows
theorem ris_goes {t : SetTable} {es : Array (Int × Value)} (T : SetI t es) (hl : t.led = true) : goesOn t es.size = true := by
  unfold goesOn
  simp only [Bool.and_eq_true, beq_iff_eq, List.all_eq_true]
  refine ⟨⟨⟨T.plain, hl⟩, T.len⟩, fun i hi => ?_⟩
  have hi' : i <= es.size := Nat.le_of_lt_succ (List.mem_range.mp hi)
  obtain ⟨a, b, c⟩ := below_go t.place (slotAt t i) T.ris t.place.size 0 t.place.size (Nat.le_refl _) (Nat.zero_le _) (by lia) (fun k hk => absurd hk (Nat.not_lt_zero k)) (fun k h1 h2 => absurd h1 (by lia))
  show SetTable.below.go t.place (slotAt t i) t.place.size 0 t.place.size = i
  generalize SetTable.below.go t.place (slotAt t i) t.place.size 0 t.place.size = p at a b c
  have tl := T.len
  unfold slotAt at b c
  by_cases i0 : i = 0
  · rw [if_pos i0] at b c
    refine Classical.byContradiction fun hn => ?_
    have := b 0 (by lia)
    lia
  · rw [if_neg i0] at b c
    have h1 : ¬ p <= i - 1 := fun z => by
      have := c (i - 1) (by lia) z
      lia
    have h2 : ¬ i < p := fun z => by
      have := b i z
      have := ris_lt T.ris (a := i - 1) (b := i) (by lia) (by lia)
      lia
    lia
section
variable {prog : Program} {w : World} {A : Around} {E : Value -> Shared -> Prop} {s : Shared} {a : Addr} {kss : List (List Int)} {G : Value -> List Int -> Prop}
end
section
variable {X : Cx}
end
end L2
namespace L2
open PySem PySem.W PyProof.Rows
section
variable {X : Cx}
end
end L2
namespace L2
open PySem PySem.W PyProof.Rows
theorem least_at (ns : List Int) : ∀ k, k < ns.length -> argBest (fun i j => decide (ns.getD i 0 < ns.getD j 0)) k <= k /\ ∀ i, i <= k -> ns.getD (argBest (fun i j => decide (ns.getD i 0 < ns.getD j 0)) k) 0 <= ns.getD i 0
  | 0, _ => ⟨Nat.le_refl _, fun i hi => by rw [show i = 0 by lia]; exact Int.le_refl _⟩
  | k + 1, h => by
    obtain ⟨a, b⟩ := least_at ns k (by lia)
    show (if decide (ns.getD (k + 1) 0 < ns.getD (argBest (fun i j => decide (ns.getD i 0 < ns.getD j 0)) k) 0) = true then k + 1 else argBest (fun i j => decide (ns.getD i 0 < ns.getD j 0)) k) <= k + 1 /\
      ∀ i, i <= k + 1 -> ns.getD (if decide (ns.getD (k + 1) 0 < ns.getD (argBest (fun i j => decide (ns.getD i 0 < ns.getD j 0)) k) 0) = true then k + 1 else argBest (fun i j => decide (ns.getD i 0 < ns.getD j 0)) k) 0 <= ns.getD i 0
    generalize argBest (fun i j => decide (ns.getD i 0 < ns.getD j 0)) k = m at a b
    by_cases g : ns.getD (k + 1) 0 < ns.getD m 0
    · rw [decide_eq_true g, if_pos rfl]
      refine ⟨Nat.le_refl _, fun i hi => ?_⟩
      by_cases c : i = k + 1
      · rw [c]; exact Int.le_refl _
      · exact Int.le_trans (Int.le_of_lt g) (b i (by lia))
    · rw [decide_eq_false g, if_neg (by decide)]
      refine ⟨by lia, fun i hi => ?_⟩
      by_cases c : i = k + 1
      · rw [c]; lia
      · exact b i (by lia)
section
variable {X : Cx}
def rMin1L (K : PySem.W.Frag) : List V -> Hp -> VK -> Prop := fun xs H Q => ∃ (p : Addr) (ns : List Int), xs = [.ref p] /\ SqL K H p (ns.map V.int) /\ ns ≠ [] /\ ∀ m ∈ ns, (∀ x ∈ ns, m <= x) -> Q (.int m) H
theorem call_min1L (hc : X.calm = true) : CallR X (.builtin "min") (rMin1L X.K) := by
  intro pins s σ H xs us Q I r h
  obtain ⟨p, ns, rfl, hp, ne, q⟩ := h
  obtain ⟨u1, rfl, ru⟩ := Vals.one r
  cases (show u1 = Value.ref p from ru)
  obtain ⟨its, rr, t1, _⟩ := I.list hp
  have hh : X.A.in1.handled = none := I.ok.hd hc
  have hlt : p < s.heap.objs.size := by obtain ⟨_, e, _⟩ := t1.isList; exact Heap.lt_size e
  have hz : its.toArray.size = ns.length := by have := rr.length; rw [List.length_map] at this; simp; lia
  have n0 : 0 < ns.length := List.length_pos_iff.mpr ne
  refine call_min_walk (wpAny_pyIter_list t1.isList ⟨_, _, _, _, _, _, _, rfl, Walks.list hh _ p (Nat.ne_of_lt hlt) its.toArray, ⟨⟨_, Heap.get?_push_size _ rfl, rfl, rfl⟩, t1.isList.push _⟩, ?_, by lia, CmpOf.ints_lt (fun i => ns.getD i 0) (fun i v e => ints_at' rr e), ?_⟩)
  · intro c hc'
    show c < (s.heap.push _).objs.size
    rw [Heap.size_push]
    rcases List.mem_cons.mp hc' with rfl | hc'
    · exact Nat.lt_succ_self _
    · rw [List.mem_singleton.mp hc']; exact Nat.lt_succ_of_lt hlt
  · intro v h' tk hP hk
    rw [hz] at hP
    obtain ⟨t, e⟩ := ints_at' rr hP
    obtain ⟨a, b⟩ := least_at ns (ns.length - 1) (by lia)
    refine ⟨.int _, H, I.kept (kept_iter hk), ⟨t, e⟩, q _ ?_ fun x hx => ?_⟩
    · have : argBest (fun i j => decide (ns.getD i 0 < ns.getD j 0)) (ns.length - 1) < ns.length := by lia
      rw [List.getD_eq_getElem?_getD, List.getElem?_eq_getElem this]
      exact List.getElem_mem this
    · obtain ⟨i, hi, rfl⟩ := List.getElem_of_mem hx
      have := b i (by lia)
      have e2 : ns.getD i 0 = ns[i] := by simp [hi]
      rw [e2] at this
      exact this
def rEqLI (K : PySem.W.Frag) : R2 := fun x y H Q => ∃ (a b : Addr) (ks ms : List Int), x = .ref a /\ y = .ref b /\ SqL K H a (ks.map V.int) /\ SqL K H b (ms.map V.int) /\ Q (.bl (decide (ks = ms))) H
theorem op_eqLI (hu : X.A.units + 66 < cLine) : OpR X (compareOp .Eq) (rEqLI X.K) := by
  intro pins s σ H x y v u Q I rx ry h
  obtain ⟨a, b, ks, ms, rfl, rfl, ha, hb, q⟩ := h
  cases (show v = Value.ref a from rx)
  cases (show u = Value.ref b from ry)
  obtain ⟨its, r1, t1, _⟩ := I.list ha
  obtain ⟨its2, r2, t2, _⟩ := I.list hb
  have l1 : its.toArray.size = ks.length := by rw [List.size_toArray, <- r1.length, List.length_map]
  have l2 : its2.toArray.size = ms.length := by rw [List.size_toArray, <- r2.length, List.length_map]
  by_cases c : ks.length = ms.length
  · refine SeqAt.eq_listAt (e := fun i => decide (ks.getD i 0 = ms.getD i 0)) t1.isList t2.isList (by lia) (by lia) (fun j h1 h2 => ?_) ?_
    · have i1 : j < ks.length := by lia
      have i2 : j < ms.length := by lia
      obtain ⟨v1, e1, p1⟩ := r1.get (i := j) (x := .int ks[j]) (by simp [i1])
      obtain ⟨v2, e2, p2⟩ := r2.get (i := j) (x := .int ms[j]) (by simp [i2])
      have w1 : its.toArray[j] = v1 := by have := List.getElem?_eq_some_iff.mp e1; simpa using this.2
      have w2 : its2.toArray[j] = v2 := by have := List.getElem?_eq_some_iff.mp e2; simpa using this.2
      rw [w1, w2]
      have := eqAt_V (A := X.A.in1) (s := s) p1 p2 rfl rfl
      rw [eqV_int] at this
      simpa [i1, i2] using this
    · have := all_same (0 : Int) l1 l2
      rw [show min its.toArray.size its2.toArray.size = its.toArray.size by lia, show (its.toArray.size == its2.toArray.size) = true by rw [beq_iff_eq]; lia, Bool.and_true] at this
      rw [this]
      exact ⟨.bl _, H, I, rfl, q⟩
  · refine SeqAt.eq_list_lengthsAt t1.isList t2.isList (by rw [bne_iff_ne, l1, l2]; exact c) (by lia) ?_
    rw [decide_eq_false (fun z => c (by rw [z]))] at q
    exact ⟨.bl _, H, I, rfl, q⟩
end
end L2
namespace L2
open PySem PySem.Spec PyProof.Rows PySem.W
def DKeeps {α : Type} : Sem α -> Prop
  | .pure _ => True
  | .unsupported _ => True
  | .finish _ => True
  | .rule _ k => DKeeps (k ())
  | .at _ k => DKeeps (k ())
  | .load _ _ k => ∀ o, DKeeps (k o)
  | .update _ _ f k => (∀ o, (f o).dict = o.dict) /\ DKeeps (k ())
  | .loadIfAlive _ k => ∀ o, DKeeps (k o)
  | .point _ k => DKeeps (k ())
  | .alloc _ k => ∀ a, DKeeps (k a)
  | .fresh k => ∀ a, DKeeps (k a)
  | .ask k => ∀ a, DKeeps (k a)
  | .handled _ k => ∀ a, DKeeps (k a)
  | .stack k => ∀ a, DKeeps (k a)
  | .thread k => ∀ a, DKeeps (k a)
  | _ => False
def DSame (h h' : Heap) : Prop := ∀ (b : Nat) (o : Obj), h.objs[b]? = some o -> ∃ o', h'.objs[b]? = some o' /\ o'.dict = o.dict
theorem DSame.refl (h : Heap) : DSame h h := fun _ o e => ⟨o, e, rfl⟩
theorem DSame.trans {h1 h2 h3 : Heap} (x : DSame h1 h2) (y : DSame h2 h3) : DSame h1 h3 := fun b o e => by
  obtain ⟨o1, e1, d1⟩ := x b o e
  obtain ⟨o2, e2, d2⟩ := y b o1 e1
  exact ⟨o2, e2, d2.trans d1⟩
theorem DSame.push {h : Heap} {o : Obj} : DSame h (h.push o) := fun b u e => by
  obtain ⟨objs, l⟩ := h
  refine ⟨u, ?_, rfl⟩
  show (objs.push o)[b]? = some u
  have : b < objs.size := (Array.getElem?_eq_some_iff.mp e).1
  rw [Array.getElem?_push, if_neg (Nat.ne_of_lt this)]
  exact e
theorem DSame.update {h : Heap} {a : Addr} {f : Obj -> Obj} (hf : ∀ o, (f o).dict = o.dict) : DSame h (h.update a f) := fun b u e => by
  obtain ⟨objs, l⟩ := h
  show ∃ o', (objs.modify a f)[b]? = some o' /\ _
  have e' : objs[b]? = some u := e
  rw [Array.getElem?_modify]
  by_cases hb : a = b
  · rw [if_pos hb, e']
    exact ⟨f u, rfl, hf u⟩
  · rw [if_neg hb, e']
    exact ⟨u, rfl, rfl⟩
theorem get_objs {h : Heap} {a : Addr} {o : Obj} (e : h.get? a = some o) : h.objs[a]? = some o := by
  unfold Heap.get? at e
  split at e
  · cases e
  · exact e
theorem DSame.at {h h' : Heap} (x : DSame h h') {a : Addr} {o o' : Obj} (e : h.get? a = some o) (e' : h'.get? a = some o') : o'.dict = o.dict := by
  obtain ⟨u, e1, d⟩ := x a o (get_objs e)
  rw [get_objs e'] at e1
  cases e1
  exact d
theorem dkeeps_wp {α : Type} {M : Model} {Γ : PySem.Ctx} {E E' : Value -> Pos -> Shared -> Prop} : ∀ (t : Sem α) (Q : α -> Pos -> Shared -> Prop) (p : Pos) (s : Shared), DKeeps t -> Sem.wp M Γ t Q E p s -> Sem.wp M Γ t (fun a p' s' => Q a p' s' /\ DSame s.heap s'.heap) E' p s := by
  intro t
  have up : ∀ {h1 h2 h3 : Heap}, DSame h1 h2 -> DSame h2 h3 -> DSame h1 h3 := fun a b => a.trans b
  induction t with
  | pure a => intro Q p s _ h; rw [Sem.wp] at h ⊢; exact ⟨h, .refl _⟩
  | raise e => intro Q p s d h; exact d.elim
  | unsupported _ => intro Q p s _ h; rw [Sem.wp] at h; exact h.elim
  | finish _ => intro Q p s _ h; rw [Sem.wp] at h; exact h.elim
  | rule t k ih => intro Q p s d h; rw [Sem.wp] at h ⊢; exact ih () Q p s d h
  | «at» p' k ih => intro Q p s d h; rw [Sem.wp] at h ⊢; exact ih () Q p' s d h
  | load a x k ih => intro Q p s d h; rw [Sem.wp] at h ⊢; obtain ⟨o, e, h⟩ := h; exact ⟨o, e, ih o Q p s (d o) h⟩
  | update a x f k ih =>
    intro Q p s d h
    rw [Sem.wp] at h ⊢
    have := ih () Q p _ d.2 h.2
    refine ⟨h.1, ?_⟩
    have z := ih () (fun a p' s' => Q a p' s') p _ d.2 h.2
    exact Sem.wp_mono M Γ _ (fun a p1 s1 q => ⟨q.1, (DSame.update d.1).trans q.2⟩) (fun _ _ _ q => q) _ _ z
  | alloc o k ih =>
    intro Q p s d h
    rw [Sem.wp] at h ⊢
    exact Sem.wp_mono M Γ _ (fun a p1 s1 q => ⟨q.1, DSame.push.trans q.2⟩) (fun _ _ _ q => q) _ _ (ih _ Q p _ (d _) h)
  | loadIfAlive a k ih => intro Q p s d h; rw [Sem.wp] at h ⊢; exact ih _ Q p s (d _) h
  | point l k ih => intro Q p s d h; rw [Sem.wp] at h ⊢; exact ih () Q p s d h
  | register a k ih => intro Q p s d h; exact d.elim
  | fresh k ih => intro Q p s d h; rw [Sem.wp] at h ⊢; exact ih _ Q p _ (d _) h
  | ask k ih => intro Q p s d h; rw [Sem.wp] at h ⊢; exact ih _ Q p s (d _) h
  | choose a n k ih => intro Q p s d h; exact d.elim
  | os a l k ih => intro Q p s d h; exact d.elim
  | call c h g l k ih => intro Q p s d h; exact d.elim
  | handled o k ih => intro Q p s d h; rw [Sem.wp] at h ⊢; exact ih _ Q p s (d _) h
  | newGen c k ih => intro Q p s d h; exact d.elim
  | genState g k ih => intro Q p s d h; exact d.elim
  | resume g r l k ih => intro Q p s d h; exact d.elim
  | yield v g l k ih => intro Q p s d h; exact d.elim
  | stack k ih => intro Q p s d h; rw [Sem.wp] at h ⊢; exact ih _ Q p s (d _) h
  | fork c k ih => intro Q p s d h; exact d.elim
  | thread k ih => intro Q p s d h; rw [Sem.wp] at h ⊢; exact ih _ Q p s (d _) h
  | await a f d l k ih => intro Q p s d h; exact d.elim
theorem dkeeps_bind {α β : Type} : ∀ (t : Sem α) (f : α -> Sem β), DKeeps t -> (∀ a, DKeeps (f a)) -> DKeeps (t.bind f) := by
  intro t f
  induction t with
  | pure a => intro _ h; exact h a
  | raise e => intro d _; exact d.elim
  | unsupported _ => intro _ _; trivial
  | finish _ => intro _ _; trivial
  | rule t k ih => intro d h; exact ih () d h
  | «at» p' k ih => intro d h; exact ih () d h
  | load a x k ih => intro d h; exact fun o => ih o (d o) h
  | update a x f k ih => intro d h; exact ⟨d.1, ih () d.2 h⟩
  | alloc o k ih => intro d h; exact fun o => ih o (d o) h
  | loadIfAlive a k ih => intro d h; exact fun o => ih o (d o) h
  | point l k ih => intro d h; exact ih () d h
  | fresh k ih => intro d h; exact fun o => ih o (d o) h
  | ask k ih => intro d h; exact fun o => ih o (d o) h
  | handled o k ih => intro d h; exact fun o => ih o (d o) h
  | stack k ih => intro d h; exact fun o => ih o (d o) h
  | thread k ih => intro d h; exact fun o => ih o (d o) h
  | _ => intro d h; exact d.elim
theorem dk_bind {α β : Type} {t : Sem α} {f : α -> Sem β} (h1 : DKeeps t) (h2 : ∀ a, DKeeps (f a)) : DKeeps (t >>= f) := dkeeps_bind t f h1 h2
theorem dk_pure {α : Type} {a : α} : DKeeps (pure a : Sem α) := trivial
theorem wpAny_samed {α : Type} {M : Model} {A : Around} {t : Sem α} {Q : α -> Shared -> Prop} {E E' : Value -> Shared -> Prop} {s : Shared} (d : DKeeps t) (h : wpAny M A t Q E s) : wpAny M A t (fun a s' => Q a s' /\ DSame s.heap s'.heap) E' s :=
  fun Γ p g => dkeeps_wp t _ p s d (h Γ p g)
theorem dk_uns {α : Type} {w : String} : DKeeps (unsupported w : Sem α) := trivial
theorem dk_load {a : Addr} : DKeeps (load a) := fun _ => trivial
theorem dk_alloc {o : Obj} : DKeeps (alloc o) := fun _ => trivial
theorem dk_stack : DKeeps stack := fun _ => trivial
theorem mapFields_dict {f : Array Value -> Array Value} (o : Obj) : (Obj.mapFields f o).dict = o.dict := by
  unfold Obj.mapFields
  split <;> rfl
theorem dk_update {a : Addr} {f : Obj -> Obj} (h : ∀ o, (f o).dict = o.dict) : DKeeps (update a f) := ⟨h, trivial⟩
theorem dk_fieldsOf {v : Value} : DKeeps (fieldsOf v) := by
  unfold fieldsOf
  repeat (any_goals first | exact dk_pure | exact dk_uns | exact dk_load | exact dk_loadPart | exact dk_alive | exact dk_alloc | exact dk_stack | exact dk_rule | exact dk_point | exact dk_standAt | exact dk_update mapFields_dict | exact dk_updatePart mapFields_dict | exact dk_update (fun _ => rfl) | refine dk_bind ?_ (fun _ => ?_) | split)
theorem dk_field {v : Value} {i : Nat} : DKeeps (field v i) := by
  unfold field
  refine dk_bind dk_fieldsOf fun _ => ?_
  repeat (any_goals first | exact dk_pure | exact dk_uns | exact dk_load | exact dk_loadPart | exact dk_alive | exact dk_alloc | exact dk_stack | exact dk_rule | exact dk_point | exact dk_standAt | exact dk_update mapFields_dict | exact dk_updatePart mapFields_dict | exact dk_update (fun _ => rfl) | refine dk_bind ?_ (fun _ => ?_) | split)
theorem dk_setField {v x : Value} {i : Nat} : DKeeps (setField v i x) := by
  unfold setField
  repeat (any_goals first | exact dk_pure | exact dk_uns | exact dk_load | exact dk_loadPart | exact dk_alive | exact dk_alloc | exact dk_stack | exact dk_rule | exact dk_point | exact dk_standAt | exact dk_update mapFields_dict | exact dk_updatePart mapFields_dict | exact dk_update (fun _ => rfl) | refine dk_bind ?_ (fun _ => ?_) | split)
theorem dk_setFlight {v : Value} {f : Option Addr} : DKeeps (setFlight v f) := by
  unfold setFlight
  refine dk_bind dk_field fun tb => ?_
  split
  · exact dk_setField
  · exact dk_pure
theorem dk_newFields {t : String} {vs : List Value} : DKeeps (newFields t vs) := by
  unfold newFields newObj
  repeat (any_goals first | exact dk_pure | exact dk_uns | exact dk_load | exact dk_loadPart | exact dk_alive | exact dk_alloc | exact dk_stack | exact dk_rule | exact dk_point | exact dk_standAt | exact dk_update mapFields_dict | exact dk_updatePart mapFields_dict | exact dk_update (fun _ => rfl) | refine dk_bind ?_ (fun _ => ?_) | split)
theorem dk_behind {env : Env} {l : List Env} : DKeeps (behindIsImport env l) := by
  unfold behindIsImport
  repeat (any_goals first | exact dk_pure | exact dk_field | refine dk_bind ?_ (fun _ => ?_) | split)
theorem dk_under : DKeeps underTheClaimsCaller := by
  unfold underTheClaimsCaller
  repeat (any_goals first | exact dk_pure | exact dk_uns | exact dk_load | exact dk_loadPart | exact dk_alive | exact dk_alloc | exact dk_stack | exact dk_rule | exact dk_point | exact dk_standAt | exact dk_update mapFields_dict | exact dk_updatePart mapFields_dict | exact dk_update (fun _ => rfl) | refine dk_bind ?_ (fun _ => ?_) | split)
theorem dk_keptBack {env : Env} {b : Bool} {l : List Env} : DKeeps (keptBack env b l) := by
  cases l with
  | nil =>
    unfold keptBack
    repeat (any_goals first | exact dk_pure | exact dk_under | refine dk_bind ?_ (fun _ => ?_) | split)
  | cons c r => exact dk_pure
theorem dk_ready : ∀ l : List Env, DKeeps (readyFrames l)
  | [] => dk_pure
  | env :: outer => by
    unfold readyFrames
    repeat (any_goals first | exact dk_pure | exact dk_uns | exact dk_load | exact dk_behind | exact dk_keptBack | exact dk_ready outer | exact dk_update (fun _ => rfl) | refine dk_bind ?_ (fun _ => ?_) | split)
theorem dk_frameObject : ∀ l : List Env, DKeeps (frameObject l)
  | [] => dk_pure
  | env :: outer => dk_bind (dk_ready _) fun _ => dk_pure
theorem dk_frameOf {env : Env} : DKeeps (PySem.frameOf env) := by
  unfold PySem.frameOf frameEnvs
  repeat (any_goals first | exact dk_pure | exact dk_uns | exact dk_stack | exact dk_frameObject _ | refine dk_bind ?_ (fun _ => ?_) | split)
theorem dk_place {f : Addr} {b : Bool} : DKeeps (entryPlaceOf f b) := by
  unfold entryPlaceOf
  repeat (any_goals first | exact dk_pure | exact dk_uns | exact dk_load | exact dk_loadPart | exact dk_alive | exact dk_alloc | exact dk_stack | exact dk_rule | exact dk_point | exact dk_standAt | exact dk_update mapFields_dict | exact dk_updatePart mapFields_dict | exact dk_update (fun _ => rfl) | refine dk_bind ?_ (fun _ => ?_) | split)
theorem dk_noteFrame {e : Value} {env : Env} : DKeeps (noteFrame e env) := by
  unfold noteFrame EntryCells.newEntry
  repeat (any_goals first | exact dk_pure | exact dk_uns | exact dk_field | exact dk_setField | exact dk_newFields | exact dk_frameOf | exact dk_place | refine dk_bind ?_ (fun _ => ?_) | split)
theorem dk_leaving {e : Value} {env : Env} : DKeeps (leaving env e) := dk_bind dk_noteFrame fun _ => dk_setFlight
end L2
namespace L2
open PySem PySem.Spec PyProof.Rows PySem.W
def DictIs (h : Heap) (ea : Addr) (od : Option Addr) : Prop := ∀ dx, od = some dx -> ∃ o, h.get? ea = some o /\ o.dict = some dx
def CXq (P : Program) (w : World) : CXT := fun outer H s E e s' => ∃ (ea C : Addr) (a0 : Value) (B : Heap) (H' : Hp) (od : Option Addr), e = .ref ea /\ s'.os = s.os /\ AllBare s'.gens /\ Un (frs outer) [] H H' s.heap s'.heap /\ HOk P w H' s'.heap /\
  Heap.FlyingW B outer ea (.ref C) a0 s'.heap /\ (∀ b o, s'.heap.get? b = some o -> ((∃ q, s.heap.get? b = some q) \/ ∃ q, H' b = some q) -> b ∉ frs outer -> B.get? b = some o) /\ DictIs s'.heap ea od /\ E (.ref C) od H'
theorem CXr.q {P : Program} {w : World} {outer : List Env} {H : Hp} {s : Shared} {E : XK} {e : Value} {s' : Shared} (h : CXr P w outer H s E e s') : CXq P w outer H s E e s' := by
  obtain ⟨ea, C, a0, B, H', e1, e2, e3, e4, e5, e6, e7, e8⟩ := h
  exact ⟨ea, C, a0, B, H', none, e1, e2, e3, e4, e5, e6, e7, (fun _ z => by cases z), e8⟩
section
variable {P : Program} {w : World} {K : PySem.W.Frag} {mg : Str -> Option Value} {base : Heap} {N : List Str} {qual : Str} {scope : Scope} {f : Addr} {cd : Value} {A : Around} {outer : List Env} {s0 : Shared} {H0 : Hp} {E : XK}
theorem inv_cx {CX CX' : CXT} {E' : XK} {pins : List (Addr × Obj)} {σ : St} {H : Hp} {s : Shared} (I : Inv (cxOf CX P w K mg base N qual scope f cd A outer s0 H0 E) pins σ H s) : Inv (cxOf CX' P w K mg base N qual scope f cd A outer s0 H0 E') pins σ H s :=
  ⟨⟨I.ok.mod, I.ok.kind, I.ok.glob, I.ok.blt, I.ok.above, I.ok.inj, I.ok.has, I.ok.cab, I.ok.hd, I.ok.frames, I.ok.stk, I.ok.exf, I.ok.bs, I.ok.bsz, I.ok.noex, I.ok.exfs, I.ok.funs, I.ok.frf⟩, I.os, I.bare, I.base, I.loc, I.cell, I.free, I.freeC, I.pin, I.hok, I.len⟩
theorem leave_raiseQ {pins : List (Addr × Obj)} {σ : St} {H : Hp} {s2 : Shared} {h' : Heap} {e C : Addr} {vs : List Value} {E2 : Value -> Shared -> Prop} (I : Inv (cxOf (CXq P w) P w K mg base N qual scope f cd A outer s0 H0 E) pins σ H s2)
    (hx : Heap.MadeExcOf s2.heap h' e (.ref C) vs) (q : E (.ref C) none H) :
    wpAny (model P w) (A.deeper (envOfC qual scope s0.heap.objs.size f cd)) (leaving (envOfC qual scope s0.heap.objs.size f cd) (.ref e)) (fun _ s'' => CXq P w outer H0 s0 E (.ref e) s'') E2 { s2 with heap := h' } :=
  wpAny_mono (leave_raise (inv_cx I) hx q) (fun _ _ z => z.q) fun _ _ z => z
theorem ps_raiseQ {x : Str} {C : Addr} {bm : List Value} {np cpos pos : Pos} {e : Expr} {ta : TA} (hg : Gl (cxOf (CXq P w) P w K mg base N qual scope f cd A outer s0 H0 E) x) (hm : mg x = some (.ref C)) (hc : excB K C bm = true)
    (ha : PA (cxOf (CXq P w) P w K mg base N qual scope f cd A outer s0 H0 E) [e] ta) (hd : (x == ("__debug__" : Str)) = false := by decide)
    (hs : starEach [e] (envOfC qual scope s0.heap.objs.size f cd) = [(false, eval e (envOfC qual scope s0.heap.objs.size f cd))] := by rfl) :
    PS (cxOf (CXq P w) P w K mg base N qual scope f cd A outer s0 H0 E) (.Raise (some (.Call (.Name x np) [e] [] cpos)) none pos) (tRaise C E ta) := by
  intro pins s σ H D I h
  have XA := excAt_of I.mod.kin hc
  obtain ⟨Na, nm, qn, bs, hd', sn, sub, ab, col, dd, k0, k1, k2, k3, k5, mN, e1, e2, e3, e4⟩ := XA.ex
  refine wpAny_Raise_call_subU (mN := mN) (nm := nm) (q := qn) (N := Na) (bs := bs) (bm := bm) (hdct := hd') (sn := sn) (sub := sub) (ab := ab) (col := col) (dd := dd) (k0 := k0) (k1 := k1) (k2 := k2) (k3 := k3) (k5 := k5) F.excBase_ValueError bmVE_value F.excBase_ValueError (e4.hasType bmVE_base) (I.ok.hd rfl) (by show (backTo cpos (starEach [e] (envOfC qual scope s0.heap.objs.size f cd))).any (·.1) = false; rw [hs]; rfl) e3 (ld_glob I hg hm ⟨rfl, ?_⟩ hd)
  have hA := ha cpos pins s σ H _ I h
  show wpAny _ _ (evalArgs (.ref C) true (backTo cpos (starEach [e] (envOfC qual scope s0.heap.objs.size f cd))) []) _ _ _
  have hA' : wpAny (model P w) (A.deeper (envOfC qual scope s0.heap.objs.size f cd)) (spliced (backTo cpos (starEach [e] (envOfC qual scope s0.heap.objs.size f cd)))) _ _ s := hA
  rw [hs] at hA' ⊢
  refine Calls.evalArgs_plain (thn hA' fun us s2 ⟨vs, H2, I2, r2, q2⟩ => ?_)
  refine ⟨rfl, ?_, I2.bk _ _ e1, e2.keeps I2.bk, e4.keeps I2.bk, fun h' ea hx => ?_⟩
  · show us.length <= sizeLine
    rw [<- r2.length]
    exact Nat.le_trans q2.1 (by decide)
  · exact leave_raiseQ I2 hx q2.2
end
structure DefQ (P : Program) (w : World) (K : PySem.W.Frag) (mg : Str -> Option Value) (base : Heap) (k : Nat) (x : Str) (ps : List Str) (sp : Sp) : Prop where
  ex : ∃ f fd, FnOk P w K mg base (CXq P w) k f fd ps sp /\ Binds K fd ps [] /\ mg x = some (.ref f) /\ PySem.W.keepIn K (.ref f) = true
theorem passQ {P : Program} {w : World} {X : Cx} : Passes (CXq P w) X E0 := fun _ _ _ _ _ _ _ ⟨_, _, _, _, _, _, _, _, _, _, _, _, _, _, z⟩ => z.elim
theorem pe_defQ {X : Cx} {k : Nat} {x : Str} {ps : List Str} {sp : Sp} {e : Expr} {es : List Expr} {t : TA} {p pos : Pos} (D : DefQ X.prog X.w X.K X.mg X.base k x ps sp) (hr : Room k X.A) (hg : Gl X x) (ha : PA X (e :: es) t)
    (hdb : (x == ("__debug__" : Str)) = false := by decide) (he : starEach (e :: es) X.env = (false, eval e X.env) :: starEach es X.env := by rfl) (hpl : (backTo pos (starEach es X.env)).any (·.1) = false := by rfl) :
    PE X (.Call (.Name x p) (e :: es) [] pos) (tCall sp [] E0 t) := by
  obtain ⟨f, fd, F, b, m, kp⟩ := D.ex
  exact pe_call F hr hg m kp b .nil passQ ha hdb he hpl
theorem Src.defQ {P : Program} {w : World} {K : PySem.W.Frag} {mg : Str -> Option Value} {base : Heap} {k : Nat} {x : Str} {st : Stmt} {N ps : List Str} {sp : Sp} (S : Src K mg x st ps) (sc : FnScope N ps (defScope st)) (len : ∀ vs H Q E, sp vs H Q E -> vs.length = ps.length)
    (hbody : ∀ (f : Addr) (cdv : Value) (A : Around) (outer : List Env) (s : Shared) (H : Hp) (vs : List V) (Q : VK) (E : XK), Room k (A.deeper (envOfC x (defScope st) s.heap.objs.size f cdv)) -> sp vs H Q E ->
      ∃ t, PSs (cxOf (CXq P w) P w K mg base N x (defScope st) f cdv A outer s H E) (defBody st) t /\ t { nx := fun _ H' => Q .non H', rt := Q } (start N vs) H) : DefQ P w K mg base (k + 1) x ps sp := by
  obtain ⟨f, fd, F, b, m⟩ := S.ex
  obtain ⟨oc, od, kV, doc, pm, an, cdv, ct, osl, e, lk, hcd⟩ := F.ex
  subst e
  exact ⟨f, _, fn_of lk hcd sc len (hbody f cdv), b, m, F.kp⟩
def ExcObjP (a C : Addr) (od : Option Addr) (h : Heap) : Prop := ∃ (o : Obj) (vs : Array Value), h.get? a = some o /\ o.cls = .ref C /\ o.data = .fields vs /\ ∀ dx, od = some dx -> o.dict = some dx
def excP (a C : Addr) (od : Option Addr) : HO := .ext (ExcObjP a C od)
theorem excP_ok {P : Program} {w : World} {H : Hp} {h : Heap} {a C : Addr} {od : Option Addr} (x : ExcObjP a C od h) : ObjOk P w H h a (excP a C od) := by
  obtain ⟨o, vs, h1, h2, h3, h4⟩ := id x
  exact ⟨x, ⟨o, h1⟩, fun a1 a2 ⟨o', v', e1, e2, e3, e4⟩ k => ⟨o', v', k o' e1, e2, e3, e4⟩⟩
section
variable {X : Cx}
def rIsP (K : PySem.W.Frag) : List V -> Hp -> VK -> Prop := fun xs H Q => ∃ (a C : Addr) (od : Option Addr) (c : V) (u : Value) (b : Bool), xs = [.ref a, c] /\ RelV c u /\ H a = some (excP a C od) /\ ExcK K C /\ kitOne K (.ref C) u = some b /\ Q (.bl b) H
theorem call_isP : CallR X (.builtin "isinstance") (rIsP X.K) := by
  intro pins s σ H xs us Q I r h
  obtain ⟨a, C, od, c, u, b, rfl, rc, ha, Z, e, q⟩ := h
  obtain ⟨v1, v2, rfl, r1, r2⟩ := Vals.two r
  cases r1
  obtain ⟨⟨o, _, hx1, hx2, _⟩, _⟩ := I.hok a _ ha
  have e2 : v2 = u := by
    cases c <;> first
      | exact (show v2 = _ from r2).trans (show u = _ from rc).symm
      | skip
    all_goals (exfalso; obtain ⟨_, rfl⟩ := rc; unfold kitOne kitCls at e; split at e <;> simp_all)
  subst e2
  exact kia_one (kitx_exc Z) I.kIn ⟨o, hx1, hx2⟩ e (by intro z; cases z) fun tk => ⟨.bl b, H, I.tok _, rfl, q⟩
end
section
variable {M : Model} {A : Around} {E : Value -> Shared -> Prop} {s : Shared}
theorem looks_onD {base : Heap} {env : Env} {outer : List Env} {L e : Addr} {cls a0 : Value} {Q : Unit -> Shared -> Prop} (hfr : A.frames = some (env :: outer)) (hf : env.frame = some L) (hfl : Heap.FlyingW base (env :: outer) e cls a0 s.heap)
    (hQ : ∀ h', Heap.HeldW base (env :: outer) e cls a0 L h' -> s.heap.UpToSlots h' -> DSame s.heap h' -> Q () { s with heap := h' }) : wpAny M A (noteFrame (.ref e) env) Q E s :=
  wpAny_mono (wpAny_samed (E := fun _ _ => False) (E' := E) dk_noteFrame (wpAny_looks_onW (Q := fun _ s' => ∃ h', s' = { s with heap := h' } /\ Heap.HeldW base (env :: outer) e cls a0 L h' /\ s.heap.UpToSlots h') hfr hf hfl fun h' a b => ⟨h', rfl, a, b⟩))
    (fun _ s' ⟨⟨h', e, a, b⟩, d⟩ => by subst e; exact hQ h' a b d) fun _ _ x => x
theorem landsD {base : Heap} {l : List Env} {e L : Addr} {cls a0 : Value} {Q : Unit -> Shared -> Prop} (hh : Heap.HeldW base l e cls a0 L s.heap)
    (hQ : ∀ h', Heap.FlyingW base l e cls a0 h' -> s.heap.UpToSlots h' -> DSame s.heap h' -> Q () { s with heap := h' }) : wpAny M A (setFlight (.ref e) none) Q E s :=
  wpAny_mono (wpAny_samed (E := fun _ _ => False) (E' := E) dk_setFlight (wpAny_landsW (Q := fun _ s' => ∃ h', s' = { s with heap := h' } /\ Heap.FlyingW base l e cls a0 h' /\ s.heap.UpToSlots h') hh fun h' a b => ⟨h', rfl, a, b⟩))
    (fun _ s' ⟨⟨h', e, a, b⟩, d⟩ => by subst e; exact hQ h' a b d) fun _ _ x => x
theorem lands_againD {base : Heap} {l : List Env} {e : Addr} {cls a0 : Value} {Q : Unit -> Shared -> Prop} (hh : Heap.FlyingW base l e cls a0 s.heap)
    (hQ : ∀ h', Heap.FlyingW base l e cls a0 h' -> s.heap.UpToSlots h' -> DSame s.heap h' -> Q () { s with heap := h' }) : wpAny M A (setFlight (.ref e) none) Q E s :=
  wpAny_mono (wpAny_samed (E := fun _ _ => False) (E' := E) dk_setFlight (lands_againW (Q := fun _ s' => ∃ h', s' = { s with heap := h' } /\ Heap.FlyingW base l e cls a0 h' /\ s.heap.UpToSlots h') hh fun h' a b => ⟨h', rfl, a, b⟩))
    (fun _ s' ⟨⟨h', e, a, b⟩, d⟩ => by subst e; exact hQ h' a b d) fun _ _ x => x
end
def XPQ (X : Cx) (pins : List (Addr × Obj)) (DX : St -> XK) (e : Value) (s' : Shared) : Prop := ∃ σ H s, Inv X pins σ H s /\ CXq X.prog X.w X.stack H s (DX σ) e s'
def PXQ (X : Cx) (st : Stmt) (t : TSX) : Prop := ∀ (pins : List (Addr × Obj)) (s : Shared) (σ : St) (H : Hp) (D : Ends) (DX : St -> XK), Inv X pins σ H s -> t D DX σ H -> wpAny (model X.prog X.w) X.A (exec st X.env) (SP X pins D) (XPQ X pins DX) s
def PXQs (X : Cx) (st : List Stmt) (t : TSX) : Prop := ∀ (pins : List (Addr × Obj)) (s : Shared) (σ : St) (H : Hp) (D : Ends) (DX : St -> XK), Inv X pins σ H s -> t D DX σ H -> wpAny (model X.prog X.w) X.A (execs st X.env) (SP X pins D) (XPQ X pins DX) s
section
variable {X : Cx}
theorem pxqs_one {st : Stmt} {t : TSX} (h : PXQ X st t) : PXQs X [st] t := by
  intro pins s σ H D DX I ht
  refine wpAny_execs_cons (thn (h pins s σ H D DX I ht) fun f s1 q => ?_)
  cases f with
  | next => exact wpAny_execs_nil q
  | ret v => exact q
  | brk => exact q
  | cont => exact q
theorem run_xq {k : Nat} {x : Str} {ps : List Str} {sp : Sp} {e : Expr} {es : List Expr} {ta : TA} {p pos : Pos} {pins : List (Addr × Obj)} {s : Shared} {σ : St} {H : Hp} {Q : VK} {DX : St -> XK} (D : DefQ X.prog X.w X.K X.mg X.base k x ps sp) (hr : Room k X.A) (hg : Gl X x) (ha : PA X (e :: es) ta) (hxe : ∀ e s, X.xe e s -> False)
    (hdb : (x == ("__debug__" : Str)) = false) (he : starEach (e :: es) X.env = (false, eval e X.env) :: starEach es X.env) (hpl : (backTo pos (starEach es X.env)).any (·.1) = false)
    (I : Inv X pins σ H s) (h : ta σ H fun vs H1 => sp (vs ++ []) H1 Q (DX σ)) : wpAny (model X.prog X.w) X.A (eval (.Call (.Name x p) (e :: es) [] pos) X.env) (EP X pins σ Q) (XPQ X pins DX) s := by
  obtain ⟨f, fd, F, bd, m, kp⟩ := D.ex
  refine wpAny_Call_Name_kw (ld_glob I hg m ?_ hdb)
  refine PySem.W.callWith_K (h₀ := X.base) I.ok.mod.kin kp (wpAny_mono (ha pos pins s σ H _ I h) (fun us s1 ⟨vs, H1, I1, r, q⟩ => ⟨I1.kIn, ?_⟩) fun _ _ z => (hxe _ _ z).elim) he hpl
  have r2 : Vals (vs ++ []) (us ++ []) := r.append .nil
  have hl : (us ++ []).length = ps.length := by rw [<- r2.length]; exact F.len _ _ _ _ q
  refine wpAny_call (codeAny_mono (F.run X.A X.stack s1 H1 ⟨us, []⟩ (us ++ []) (vs ++ []) _ _ hr I1.env0 (bd s1 us I1.kIn hl) r2 q) fun r s' hq => ?_)
  cases r with
  | ok fl =>
    cases fl with
    | ret u => exact I1.after hq
    | next => exact False.elim hq
    | brk => exact False.elim hq
    | cont => exact False.elim hq
  | error ev => exact ⟨σ, H1, s1, I1, hq⟩
theorem pxq_call {k : Nat} {x : Str} {ps : List Str} {sp : Sp} {e : Expr} {es : List Expr} {ta : TA} {p pos epos : Pos} (D : DefQ X.prog X.w X.K X.mg X.base k x ps sp) (hr : Room k X.A) (hg : Gl X x) (ha : PA X (e :: es) ta) (hxe : ∀ e s, X.xe e s -> False)
    (hdb : (x == ("__debug__" : Str)) = false := by decide) (he : starEach (e :: es) X.env = (false, eval e X.env) :: starEach es X.env := by rfl) (hpl : (backTo pos (starEach es X.env)).any (·.1) = false := by rfl)
    (hs : swapsWith (.Call (.Name x p) (e :: es) [] pos) none epos.line X.env = pure false := by rfl) : PXQ X (.Expr (.Call (.Name x p) (e :: es) [] pos) epos) (xCall sp ta) := by
  intro pins s σ H D0 DX I h
  exact wpAny_Expr_any (thn (run_xq D hr hg ha hxe hdb he hpl I h) fun v s1 ⟨x, H1, I1, r1, q1⟩ => ⟨σ, H1, I1, q1⟩) I.quiet hs
def tTryQ (K : Frag) (tbody : TSX) (i : Nat) (W : Addr) (tb : TS) : TS := fun D σ H => tbody D (fun σ1 c od H2 => ∃ C, c = .ref C /\ subIn K (.ref C) (.ref W) = some true /\
  ∀ ea, H2 ea = none -> tb { D with nx := fun σ' H' => D.nx (σ'.set i none) H', bk := fun _ _ => False, ct := fun _ _ => False } (σ1.set i (some (.ref ea))) (upd H2 ea (excP ea C od))) σ H
theorem ps_tryQ {i : Nat} {cx n : Str} {tbody : TSX} {body : List Stmt} {tb : TS} {b0 : Stmt} {suite : List Stmt} {W : Addr} {bmW : List Value} {np hpos tpos : Pos} (hgc : Gl X cx) (hmc : X.mg cx = some (.ref W)) (hW : excB X.K W bmW = true) (hN : X.N.Nodup) (hi : X.N[i]? = some n) (hlo : X.env.scope.names.lookup n = some .local)
    (hbody : PXQs X body tbody) (hb : ∀ v, PSs (X.marked v) (b0 :: suite) tb) (hst : X.stack = X.env :: X.outer) (hfr : X.env.frame = some X.env.locals) (hdc : (cx == ("__debug__" : Str)) = false := by decide) :
    PS X (.Try body [.ExceptHandler (some (.Name cx np)) (some n) (b0 :: suite) hpos] [] [] tpos) (tTryQ X.K tbody i W tb) := by
  intro pins s σ H D0 I0 h
  refine wpAny_Try_except (wpAny_mono (hbody pins s σ H D0 _ I0 h) (fun fl s1 q => ?_) fun ev s' hx => ?_)
  · cases fl with
    | next => exact wpAny_execs_nil q
    | ret v => exact q
    | brk => exact q
    | cont => exact q
  · obtain ⟨σ1, H1, s1, I1, ea, C, a0, B, H', od, rfl, os, bare, un, hok, fly, kB, di, C', eC, sb, tq⟩ := hx
    cases eC
    have inv : ∀ h', B.StaysIn h' -> s'.heap.UpToSlots h' -> Inv X pins σ1 H' { s' with heap := h' } := fun h' a b => caught_inv I1 os bare un hok fly.2.2.1 kB a b
    obtain ⟨oe, ve, _, _, _, heo, ⟨_, _⟩, hdo, _⟩ := fly.2.2.2
    have nfr : ea ∉ frs X.stack := fun hm => frames_nf fly.2.2.1 hm heo ve hdo
    have fresh1 : s1.heap.get? ea = none := by
      cases z : s1.heap.get? ea with
      | none => rfl
      | some q1 =>
        have := kB ea oe heo (.inl ⟨q1, z⟩) nfr
        rw [fly.2.1] at this
        cases this
    have freshH : H' ea = none := by
      cases z : H' ea with
      | none => rfl
      | some q1 =>
        have := kB ea oe heo (.inr ⟨q1, z⟩) nfr
        rw [fly.2.1] at this
        cases this
    have hA : X.A.frames = some (X.env :: X.outer) := by rw [<- hst]; exact I1.ok.frames
    have fly' := fly
    rw [hst] at fly'
    refine looks_onD hA hfr fly' fun h4 held4 up4 ds4 => ?_
    refine landsD held4 fun h5 fly5 up5 ds5 => ?_
    have up45 := up4.trans up5
    have J5 := inv h5 fly5.1 up45
    refine wpAny_handleBy_cons (codeAny_handlers_test ?_) (by intro z; cases z)
    refine ld_glob (X := X.marked (.ref ea)) (Inv.mark J5) hgc hmc ?_ hdc
    obtain ⟨oe5, he5, hc5⟩ := fly5.there
    refine xc_matches J5.kIn hW sb he5 hc5 ?_
    refine codeAny_handlers_suite_as ?_
    refine lands_againD fly5 fun h6 fly6 up6 ds6 => ?_
    have J6 := inv h6 fly6.1 (up45.trans up6)
    obtain ⟨oe6, he6, hc6⟩ := fly6.there
    obtain ⟨oe6', ve6, _, _, _, he6', _, hd6, _⟩ := fly6.2.2.2
    rw [he6] at he6'
    cases he6'
    have gone : ∀ b o, s1.heap.get? b = some o -> b ≠ ea := fun b o z q => by rw [q, fresh1] at z; cases z
    have J7 : Inv X pins σ1 (upd H' ea (excP ea C od)) { s' with heap := h6 } := by
      refine J6.track freshH (excP_ok ⟨oe6, ve6, he6, hc6, hd6, fun dx e => (by obtain ⟨o, h1, h2⟩ := di dx e; exact (((ds4.trans ds5).trans ds6).at h1 he6).trans h2)⟩) ?_ ?_ ?_ ?_
      · obtain ⟨_, ⟨o, _, _, z, _⟩, _⟩ := I1.loc
        exact Ne.symm (gone _ o z)
      · intro y c z
        obtain ⟨_, o, z2, _⟩ := I1.cell y c z
        exact gone _ o z2
      · intro p0 hp0
        exact gone _ _ (I1.pin p0 hp0).1
      · intro b u z hx
        obtain ⟨o', z2⟩ := I1.base.there b u z hx
        exact gone _ o' z2
    refine store_ok J7 hN hi (.inl hlo) (show RelV (.ref ea) (.ref ea) from rfl) (fun s8 J8 => ?_) (.inr hlo)
    refine wpAny_mono (hb (.ref ea) pins s8 _ _ _ (Inv.mark J8) (tq ea freshH)) (fun fl s9 q9 => ?_) fun _ _ z => z.elim
    cases fl with
    | next =>
      obtain ⟨σ9, H9, J9, q⟩ := q9
      exact unbind_ok (X := X) (Inv.unmark J9 I1.ok.hd) hN hi hlo fun s10 J10 => ⟨_, H9, J10, q⟩
    | ret u =>
      obtain ⟨v, σ9, H9, J9, r9, q⟩ := q9
      exact unbind_ok (X := X) (Inv.unmark J9 I1.ok.hd) hN hi hlo fun s10 J10 => ⟨v, _, H9, J10, r9, q⟩
    | brk =>
      obtain ⟨_, _, _, q⟩ := q9
      exact False.elim q
    | cont =>
      obtain ⟨_, _, _, q⟩ := q9
      exact False.elim q
end
end L2
namespace L2
open PySem PySem.Spec PyProof.Rows PySem.W
section
variable {K : Frag} {prog : Program} {w : World} {A : Around} {E : Value -> Shared -> Prop} {h : Heap} {g : Array GenState} {d : Drawn} {t : Nat} {os : OsState} {a C dx : Addr} {vs : Array Value} {sl : Array (Option Value)} {f : Str} {v : Value} {mA : Str -> Option Value} {cc : Value} {cdd : Option Addr} {cd : ClassData} {csl : Array (Option Value)}
theorem xa_entry {tk : Tok} {Q : Fin -> Shared -> Prop} (X : K.In h) (hf : findIn K (.ref C) f = some none) (hC : h.get? C = some ⟨cc, cdd, .cls cd, csl⟩) (hD : cd.hasDict = true) (hx : h.get? a = some ⟨.ref C, some dx, .fields vs, sl⟩) (hn : h.Ns dx mA) (hv : mA f = some v) (hq : Q (.done (.ret v)) ⟨h, g, d, t, os⟩) :
    wpAny (model prog w) A (Builtin.«object.__getattribute__» ⟨[.ref a, .str f tk], []⟩) Q E ⟨h, g, d, t, os⟩ := by
  have l3 : Looks (model prog w) h (typeLookup (.ref C) f) _ := looks_findIn X hf
  repeat (any_goals (first | assumption | (with_reducible refine wpAny_loadPart_at hx ?_) | (with_reducible refine wpAny_load hC ?_) | (dsimp only; rw [hD]) | with_reducible refine Looks.at l3 ?_ | with_reducible refine wpAny_nsGet hn ?_ | wp_step))
  rw [hv]
  repeat (any_goals (first | assumption | wp_step))
theorem xa_call {tk : Tok} {R : Result -> Shared -> Prop} (Z : ExcK K C) (X : K.In h) (hf : findIn K (.ref C) f = some none) (hC : h.get? C = some ⟨cc, cdd, .cls cd, csl⟩) (hD : cd.hasDict = true) (hx : h.get? a = some ⟨.ref C, some dx, .fields vs, sl⟩) (hn : h.Ns dx mA) (hv : mA f = some v) (hq : R (.ok (.ret v)) ⟨h, g, d, t, os⟩) :
    codeAny (model prog w) A (.call (.builtin "BaseException.__getattribute__") ⟨[.ref a, .str f tk], []⟩) R ⟨h, g, d, t, os⟩ :=
  codeAny_call_builtin F.attrBase_ValueError.ga.plain F.entry_bexc_ga (xc_check Z X hx rfl (xa_entry X hf hC hD hx hn hv hq))
theorem xa_attr {Q : Value -> Shared -> Prop} (Z : ExcK K C) (X : K.In h) (hf : findIn K (.ref C) f = some none) (hC : h.get? C = some ⟨cc, cdd, .cls cd, csl⟩) (hD : cd.hasDict = true) (hx : h.get? a = some ⟨.ref C, some dx, .fields vs, sl⟩) (hn : h.Ns dx mA) {n : Int} {tk : Tok} (hv : mA f = some (.int n tk)) (hq : Q (.int n tk) ⟨h, g, d, t + 1, os⟩) :
    wpAny (model prog w) A (getAttr (.ref a) f true) Q E ⟨h, g, d, t, os⟩ := by
  have f3 := F.attrBase_ValueError.ga.bind (.ref a)
  have y0 : (false && onTheHeap (Value.builtin "BaseException.__getattribute__")) = false := rfl
  have y2 : (Value.builtin "BaseException.__getattribute__" == Value.builtin "object.__getattribute__") = false := by decide +kernel
  have y1 : (onTheHeap (Value.ref C) && Value.builtin "BaseException.__getattribute__" == Value.builtin "object.__getattribute__") = false := by rw [y2]; rfl
  have l1 : Looks (model prog w) h (typeLookup (.ref C) "__getattribute__") _ := looks_findIn X Z.g1
  have l2 : Looks (model prog w) h (typeLookup (.ref C) "__getattr__") _ := looks_findIn X Z.g2
  repeat (any_goals (first | assumption | (with_reducible refine wpAny_loadPart_at hx ?_) | with_reducible refine Looks.at l1 ?_ | with_reducible refine Looks.at l2 ?_ | wp_step))
  refine xa_call Z X hf hC hD hx hn hv ?_
  repeat (any_goals (first | assumption | wp_step))
end
def hasDB (K : Frag) (C : Addr) : Bool := match K.lookup C with
  | some ⟨_, _, .cls cd, _⟩ => cd.hasDict
  | _ => false
theorem hasDB_of {K : Frag} {C : Addr} {h : Heap} (X : K.In h) (z : hasDB K C = true) : ∃ cc cdd cd csl, h.get? C = some ⟨cc, cdd, .cls cd, csl⟩ /\ cd.hasDict = true := by
  unfold hasDB at z
  split at z
  · rename_i cc cdd cd csl lk
    exact ⟨_, _, _, _, X _ _ lk, z⟩
  · cases z
def tAtP (K : Frag) (ta : TE) (f : Str) : TE := fun σ H Q => ta σ H fun x H1 => ∃ a C dx fs n, x = .ref a /\ H1 a = some (excP a C (some dx)) /\ H1 dx = some (.xd fs) /\ ExcK K C /\ findIn K (.ref C) f = some none /\ hasDB K C = true /\ fs.lookup f = some (.int n) /\ Q (.int n) H1
section
variable {X : Cx} {e : Expr} {f : Str} {pos : Pos} {ta : TE}
theorem pe_atP (he : PE X e ta) (hb : attributeBase e f X.env (eval e X.env) = eval e X.env) : PE X (.Attribute e f pos) (tAtP X.K ta f) := by
  intro pins s σ H Q I h
  refine attr_of hb (thn (he pins s σ H _ I h) fun u s1 ⟨x, H1, I1, rx, a, C, dx, fs, n, ex, ea, edx, Z, hf, hD, l, q⟩ => ?_)
  subst ex
  obtain rfl : u = Value.ref a := rx
  obtain ⟨⟨⟨oc, od, odt, osl⟩, vs, hx1, hx2, hx3, hx4⟩, _⟩ := I1.hok a _ ea
  obtain ⟨mA, hn, hm⟩ := I1.hok dx _ edx
  cases (show oc = _ from hx2)
  cases (show odt = _ from hx3)
  cases (show od = _ from hx4 dx rfl)
  obtain ⟨cc, cdd, cd, csl, hC, hD'⟩ := hasDB_of I1.kIn hD
  have hl := hm f
  rw [l] at hl
  obtain ⟨hp, g, d, t, os⟩ := s1
  cases hv : mA f with
  | none => rw [hv] at hl; exact hl.elim
  | some u' =>
    rw [hv] at hl
    obtain ⟨tk, rfl⟩ : ∃ tk, u' = .int n tk := hl
    exact xa_attr Z I1.kIn hf hC hD' hx1 hn.ns hv ⟨.int n, H1, I1.tok _, ⟨_, rfl⟩, q⟩
end
end L2
namespace L2
open PySem PySem.Spec PyProof.Rows PySem.W
def excIB (K : Frag) (C : Addr) (bm : List Value) : Bool := match K.lookup C with
  | some ⟨.type "type", _, .cls cd, sl⟩ => (match cd.mro, sl.toList with
    | .ref C' :: bm', [_, _, _, _, some (.builtin n), _] => C' == C && n == "ValueError.__new__" && !cd.hasDel && tailIn K bmVE bm' && bm' == bm
    | _, _ => false)
  | _ => false
theorem excIB_of {K : Frag} {h : Heap} {C : Addr} {bm : List Value} (X : K.In h) (z : excIB K C bm = true) : ∃ (N : Addr) (nm qn : Str) (bs : List Value) (hd : Bool) (sn : List Str) (sub : List Value) (ab : Bool) (col : Option Bool) (dd : Option Addr) (k0 k1 k2 k3 k5 : Option Value),
    h.get? C = some (excClassObj nm qn C N bs bm hd sn sub ab col dd k0 k1 k2 k3 k5 "ValueError.__new__") /\ OwnTail h bmVE bm := by
  unfold excIB at z
  split at z
  next dd cd sl lk =>
    split at z
    next C2 bm2 k0 k1 k2 k3 n k5 hm hs =>
      simp only [Bool.and_eq_true, beq_iff_eq, Bool.not_eq_true'] at z
      obtain ⟨⟨⟨⟨y1, y2⟩, y3⟩, y4⟩, y5⟩ := z
      subst y1 y2 y5
      cases cd with
      | mk nm bs mro ns qn hd sn sub ab col del =>
        have e1 : mro = .ref C2 :: bm2 := hm
        have e2 : del = false := y3
        subst e1 e2
        have e3 : sl = #[k0, k1, k2, k3, some (.builtin "ValueError.__new__"), k5] := by
          cases sl with
          | mk l => exact congrArg Array.mk hs
        subst e3
        exact ⟨ns, nm, qn, bs, hd, sn, sub, ab, col, dd, k0, k1, k2, k3, k5, X _ _ lk, PySem.W.tail_of_in X y4⟩
    next => cases z
  next => cases z
section
variable {K : Frag} {prog : Program} {w : World} {A : Around} {E : Value -> Shared -> Prop} {h : Heap} {g : Array GenState} {d : Drawn} {t : Nat} {os : OsState} {C fI : Addr} {oI : Obj} {bm : List Value}
theorem xi_type_call {rest : List Value} {Q : Fin -> Shared -> Prop} (X : K.In h) (hB : excIB K C bm = true) (hi : findIn K (.ref C) "__init__" = some (some (.ref fI))) (hfI : K.lookup fI = some oI) (hfc : oI.cls = .type "function")
    (hq : ∀ h' e, Heap.MadeExcOf h h' e (.ref C) rest -> wpAny (model prog w) A (call (.ref fI) (.ref e :: rest)) (fun r s' => r = .none /\ Q (.done (.ret (.ref e))) s') E ⟨h', g, d, t, os⟩) (hrest : rest.length <= sizeLine) :
    wpAny (model prog w) A (Builtin.«type.__call__» ⟨.ref C :: rest, []⟩) Q E ⟨h, g, d, t, os⟩ := by
  obtain ⟨N, nm, qn, bs, hd, sn, sub, ab, col, dd, k0, k1, k2, k3, k5, hC, T⟩ := excIB_of X hB
  have Fn := F.excBase_ValueError
  repeat (first | with_reducible refine wpAny_loadPart_at hC ?_ | with_reducible refine wpAny_madeBy_exc hC ?_ | wp_step)
  refine codeAny_call_builtin_code (Code.quiet_builtin _ Fn.quiet) (wpAny_check_new_subU Fn bmVE_value T hC ?_)
  refine codeAny_exc_new_subU Fn bmVE_value Fn T hC ?_ hrest
  show wpAny _ _ _ _ _ _
  have hget : ((h.push { cls := .type "tuple", data := .seq rest.toArray }).push
      { cls := .ref C, data := .fields #[.ref h.objs.size, .none, .none, .none, .bool false, .none] }).get? (h.objs.size + 1) = some
      { cls := .ref C, data := .fields #[.ref h.objs.size, .none, .none, .none, .bool false, .none] } := by heap_get
  have up : ∀ b o, h.get? b = some o -> ((h.push { cls := .type "tuple", data := .seq rest.toArray }).push { cls := .ref C, data := .fields #[.ref h.objs.size, .none, .none, .none, .bool false, .none] }).get? b = some o := fun b o e => Heap.get?_push_of_some _ (Heap.get?_push_of_some _ e)
  have hC1 := up _ _ hC
  have l1 : Looks (model prog w) ((h.push { cls := .type "tuple", data := .seq rest.toArray }).push { cls := .ref C, data := .fields #[.ref h.objs.size, .none, .none, .none, .bool false, .none] }) (typeLookup (.ref C) "__init__") _ := looks_findIn (fun a o e => up _ _ (X a o e)) hi
  have hcC : (Value.ref C :: bm).contains (.ref C) = true := by simp
  have hfI1 := up _ _ (X _ _ hfI)
  unfold isInstance
  repeat (first | with_reducible refine wpAny_loadPart_at hget ?_ | (with_reducible refine wpAny_isSubtype_exc hC1 ?_; rw [hcC]) | wp_step)
  show wpAny _ _ (typeLookup (.ref C) _) _ _ _
  refine Looks.at l1 ?_
  refine wpAny_holding (wpAny_bind ?_)
  unfold bindSpecial
  refine wpAny_bind (wpAny_typeOf (T := "function") ⟨_, hfI1, hfc⟩ ?_)
  rw [if_pos (by decide)]
  refine wpAny_pure (wpAny_bind (wpAny_mono (hq _ (h.objs.size + 1) ⟨up, Heap.get?_none_of_le (Nat.le_succ _), h.objs.size, hget, Heap.get?_none_of_le (Nat.le_refl _), ?_⟩) (fun r s' hr => ?_) fun _ _ x => x))
  · exact Heap.get?_push_of_some _ (Heap.get?_push_at rfl rfl)
  · obtain ⟨rfl, hQ⟩ := hr
    wp_walk
    exact hQ
theorem xi_call {rest : List Value} {Q : Value -> Shared -> Prop} (X : K.In h) (hB : excIB K C bm = true) (hi : findIn K (.ref C) "__init__" = some (some (.ref fI))) (hfI : K.lookup fI = some oI) (hfc : oI.cls = .type "function")
    (hq : ∀ h' e, Heap.MadeExcOf h h' e (.ref C) rest -> wpAny (model prog w) (A.under (.builtin "type.__call__" ⟨.ref C :: rest, []⟩)) (call (.ref fI) (.ref e :: rest)) (fun r s' => r = .none /\ Q (.ref e) s') E ⟨h', g, d, t, os⟩) (hrest : rest.length <= sizeLine) :
    wpAny (model prog w) A (call (.ref C) rest) Q E ⟨h, g, d, t, os⟩ := by
  obtain ⟨N, nm, qn, bs, hd, sn, sub, ab, col, dd, k0, k1, k2, k3, k5, hC, T⟩ := excIB_of X hB
  have f1 := tc_lookup
  have f2 := tc_bind (.ref C)
  have hT : (⟨h, g, d, t, os⟩ : Shared).TypeIs (.ref C) "type" := ⟨_, hC, rfl⟩
  refine wpAny_call (codeAny_of_tree ?_)
  show wpAny _ _ (callAny (.ref C) _) _ _ _
  repeat (any_goals (first | assumption | with_reducible refine wpAny_loadPart_at hC ?_ | wp_step))
  refine ⟨rfl, ?_⟩
  refine codeAny_call_builtin_at (Code.quiet_builtin _ (by decide +kernel)) entry_typeCall (wpAny_check_type_call_sub hC (xi_type_call X hB hi hfI hfc (fun h' e hm => ?_) hrest))
  exact hq h' e hm
end
end L2
namespace L2
open PySem PySem.Spec PyProof.Rows PySem.W PySem.Builtin PySem.Builtin.ObjectAttr
def mroVE (K : Frag) (C : Addr) : Bool := (clsIn K C).any fun cd => cd.hasDict && match cd.mro with
  | .ref _ :: .ref _ :: r => r == bmVE
  | _ => false
section
variable {K : Frag} {prog : Program} {w : World} {A : Around} {E : Value -> Shared -> Prop} {s : Shared} {a C : Addr} {vs : Array Value} {f : Str} {v : Value}
theorem xs_set {Q : Unit -> Shared -> Prop} (X : K.In s.heap) (hs : findIn K (.ref C) "__setattr__" = some (some (.builtin "object.__setattr__"))) (hm : mroVE K C = true) (hf : findIn K (.ref C) f = some none)
    (hx : s.heap.get? a = some ⟨.ref C, none, .fields vs, #[]⟩)
    (hq : ∀ h' tk, h'.get? a = some ⟨.ref C, some s.heap.objs.size, .fields vs, #[]⟩ -> h'.Ns1 s.heap.objs.size (fun y => if y = f then some v else none) -> (∀ b o, b ≠ a -> s.heap.get? b = some o -> h'.get? b = some o) -> Q () { s with heap := h', toks := tk }) :
    wpAny (model prog w) A (setAttr (.ref a) f v) Q E s := by
  have SF := PySem.F.store_object
  have I : InstAt s.heap a ⟨.ref C, none, .fields vs, #[]⟩ C none := ⟨hx, rfl, rfl, True.intro⟩
  obtain ⟨cd, hc, ho⟩ := any_some hm
  rw [Bool.and_eq_true] at ho
  obtain ⟨hhd, ho⟩ := ho
  obtain ⟨c1, c2, em⟩ : ∃ c1 c2, cd.mro = .ref c1 :: .ref c2 :: bmVE := by
    split at ho
    · rename_i c1 c2 r e
      exact ⟨c1, c2, by rw [e, beq_iff_eq.mp ho]⟩
    · cases ho
  refine set_plain X I hs ?_
  have I' : InstAt ({ s with toks := s.toks + 1 } : Shared).heap a ⟨.ref C, none, .fields vs, #[]⟩ C none := I
  have sub : Looks (model prog w) s.heap (isInstance (.ref a) (.type "object")) true := I.type.andThen (looks_mroIn X (by unfold mroIn; rw [hc, Option.bind_some, em]; rfl))
  refine codeAny_call_builtin SF.slot.plain SF.entry (@check_slot (model prog w) _ _ { s with toks := s.toks + 1 } "object.__setattr__" "object" "__setattr__" (.ref a) [.str f s.toks, v] [] _ SF.kind SF.split sub (SF.args (.ref a) (.str f s.toks) v) ?_)
  have hmr : Looks (model prog w) s.heap (mroOf (.ref C)) cd.mro := (looks_clsIn X hc).andThen .now
  rw [osa_eq, refuse_eq]
  refine wpAny_bind (wpAny_bind (I.type.here (s := { s with toks := s.toks + 1 }) (wpAny_bind (hmr.here (s := { s with toks := s.toks + 1 }) ?_))))
  rw [em, refuseLoop_ref, refuseLoop_ref, PySem.F.store_ValueError.passes]
  refine wpAny_pure (wpAny_bind (I.type.here (s := { s with toks := s.toks + 1 }) (wpAny_bind ((looks_findIn X hf).here (s := { s with toks := s.toks + 1 }) (wpAny_bind (wpAny_pure ?_))))))
  refine wpAny_bind (wpAny_pure (wpAny_bind (wpAny_bind (wpAny_loadPart hx (wpAny_bind ((looks_clsIn X hc).here (s := { s with toks := s.toks + 1 }) ?_))))))
  rw [hhd]
  have hx1 : (s.heap.push { cls := .type "dict", data := .dict #[] }).get? a = some ⟨.ref C, none, .fields vs, #[]⟩ := Heap.get?_push_of_some _ hx
  have hxs : a ≠ s.heap.objs.size := Nat.ne_of_lt (Heap.lt_size hx)
  refine wpAny_bind (wpAny_alloc' ?_)
  refine wpAny_bind (wpAny_update' hx1 ?_)
  refine wpAny_pure ?_
  have hgd : ((s.heap.push { cls := .type "dict", data := .dict #[] }).update a fun o => { cls := o.cls, dict := some s.heap.objs.size, data := o.data, slots := o.slots }).get? s.heap.objs.size = some { cls := .type "dict", data := .dict #[] } :=
    (Heap.get?_update_ne _ _ _ _ hxs.symm).trans (Heap.get?_push_at rfl rfl)
  have hnd : ((s.heap.push { cls := .type "dict", data := .dict #[] }).update a fun o => { cls := o.cls, dict := some s.heap.objs.size, data := o.data, slots := o.slots }).Ns s.heap.objs.size (fun _ => none) :=
    ⟨_, #[], _, hgd, rfl, fun e he => absurd he (by simp), fun _ => rfl⟩
  show wpAny _ _ (storeInDict s.heap.objs.size (.str f s.toks) f v) _ _ _
  unfold storeInDict newKeyGuard
  refine wpAny_bind (wpAny_pure (wpAny_bind (wpAny_nsSet1 (Heap.Ns1.of_empty hnd) fun h' hn' hs' => ?_)))
  obtain ⟨oD, esD, epD, hoD, hdD, hcD⟩ := hn'.count (Within.cons f v Within.nil)
  refine wpAny_bind (wpAny_lookBehind hoD (by rw [hdD]; exact pastItsLine_dict (Nat.le_trans hcD (by rw [List.length_cons, List.length_nil, sizeLine_eq]; lia))) ?_)
  wp_walk
  refine hq h' _ ?_ hn' fun b o hb e => ?_
  · exact (hs'.2 a hxs).trans (Heap.get?_update_self _ hx1 rfl)
  · exact (hs'.2 b (Nat.ne_of_lt (Heap.lt_size e))).trans ((Heap.get?_update_ne _ _ _ _ hb).trans (Heap.get?_push_of_some _ e))
end
end L2
namespace L2
open PySem PySem.Spec PyProof.Rows PySem.W
abbrev excF (t : Addr) : Array Value := #[.ref t, .none, .none, .none, .bool false, .none]
def ExcN (a C : Addr) (od : Option Addr) (h : Heap) : Prop := ∃ t, h.get? a = some ⟨.ref C, od, .fields (excF t), #[]⟩
def excN (a C : Addr) (od : Option Addr) : HO := .ext (ExcN a C od)
theorem excN_ok {P : Program} {w : World} {H : Hp} {h : Heap} {a C : Addr} {od : Option Addr} (x : ExcN a C od h) : ObjOk P w H h a (excN a C od) := by
  obtain ⟨t, h1⟩ := id x
  exact ⟨x, ⟨_, h1⟩, fun a1 a2 ⟨t', e1⟩ k => ⟨t', k _ e1⟩⟩
theorem excN_at {X : Cx} {pins : List (Addr × Obj)} {σ : St} {H : Hp} {s : Shared} {a C : Addr} {od : Option Addr} (I : Inv X pins σ H s) (e : H a = some (excN a C od)) : ExcN a C od s.heap := (I.hok a _ e).1
section
variable {K : Frag} {prog : Program} {w : World} {A : Around} {E : Value -> Shared -> Prop} {h : Heap} {g : Array GenState} {d : Drawn} {t : Nat} {os : OsState} {e C : Addr} {bm : List Value}
theorem xi_base {t0 : Addr} {rest : List Value} {Q : Value -> Shared -> Prop} (X : K.In h) (hB : excIB K C bm = true) (hx : h.get? e = some ⟨.ref C, none, .fields (excF t0), #[]⟩)
    (hq : ∀ h', ExcN e C none h' -> (∀ b o, b ≠ e -> h.get? b = some o -> h'.get? b = some o) -> Q .none ⟨h', g, d, t, os⟩) (hz : rest.length <= 100) :
    wpAny (model prog w) A (call (.builtin "ValueError.__init__") (.ref e :: rest)) Q E ⟨h, g, d, t, os⟩ := by
  obtain ⟨N, nm, qn, bs, hd, sn, sub, ab, col, dd, k0, k1, k2, k3, k5, hC, T⟩ := excIB_of X hB
  have Fn := F.excBase_ValueError
  have hrest : rest.length <= sizeLine := Nat.le_trans hz (by decide)
  refine wpAny_call (codeAny_call_builtin Fn.init.plain Fn.initEntry (wpAny_check_init_subU Fn T hC hx rfl ?_))
  wp_walk
  refine hq _ ⟨h.objs.size, ?_⟩ fun b o hb z => ?_
  · rw [Heap.get?_update_self _ (Heap.get?_push_of_some _ hx) rfl]
    rfl
  · rw [Heap.get?_update_other _ _ (Ne.symm hb)]
    exact Heap.get?_push_of_some _ z
end
def tInit (K : Frag) (bm : List Value) (ta : TA) : TS := fun D σ H => ta σ H fun vs H1 => ∃ (e C : Addr) (m : Str), vs = [.ref e, .str m] /\ H1 e = some (excN e C none) /\ excIB K C bm = true /\ D.nx σ H1
section
variable {X : Cx}
theorem ps_initX {wx : Str} {W : Addr} {bm : List Value} {np apos pos epos : Pos} {e0 : Expr} {es : List Expr} {ta : TA} (hg : Gl X wx) (hm : X.mg wx = some (.ref W)) (h1 : specialIn X.K (.ref W) "__getattribute__" = some (some (.builtin "type.__getattribute__"))) (h2 : readsIn X.K W (.type "type") = true)
    (h3 : findCls X.K (.ref W) (.type "type") "__init__" = some (.val (.builtin "ValueError.__init__"))) (ha : PA X (e0 :: es) ta) {pl : Sem Bool}
    (ht : eval (.Call (.Attribute (.Name wx np) "__init__" apos) (e0 :: es) [] pos) X.env = (do
      let ov <- eval (.Name wx np) X.env
      standAt apos.atName
      let (f, first) <- holding [ov] (getMethod ov "__init__" pl)
      callWith pos f first (backTo pos (starEach (e0 :: es) X.env)) (backToKw pos (keywordEach [] X.env))) := by rfl)
    (hdb : (wx == ("__debug__" : Str)) = false := by decide) (he : starEach (e0 :: es) X.env = (false, eval e0 X.env) :: starEach es X.env := by rfl) (hpl : (backTo pos (starEach es X.env)).any (·.1) = false := by rfl)
    (hs : swapsWith (.Call (.Attribute (.Name wx np) "__init__" apos) (e0 :: es) [] pos) none epos.line X.env = pure false := by rfl) :
    PS X (.Expr (.Call (.Attribute (.Name wx np) "__init__" apos) (e0 :: es) [] pos) epos) (tInit X.K bm ta) := by
  intro pins s σ H D I h
  refine wpAny_Expr_any ?_ I.quiet hs
  refine PySem.W.methodCall_KW (pl := pl) (ld_glob I hg hm ?_ hdb) ht
  refine PySem.W.method_cls I.kIn h1 (PySem.W.cls_value I.kIn h2 h3 (by decide +kernel) ?_)
  have I0 := I.tok (s.toks + 1)
  have hA := ha pos pins { s with toks := s.toks + 1 } σ H _ I0 h
  show wpAny _ _ (callWith pos (.builtin "ValueError.__init__") [] (backTo pos (starEach (e0 :: es) X.env)) []) _ _ _
  rw [he] at hA ⊢
  refine Calls.callWith_builtin (by show (false || (backTo pos (starEach es X.env)).any (·.1)) = false; rw [hpl] <;> rfl) (Calls.evalArgs_plain ?_)
  refine thn hA fun us s2 ⟨vs, H2, I2, r2, q2⟩ => ?_
  obtain ⟨e, C, m, rfl, he2, hB, q⟩ := q2
  obtain ⟨v1, v2, rfl, r1, r3⟩ := Vals.two r2
  cases (show v1 = Value.ref e from r1)
  obtain ⟨t0, hx⟩ := excN_at I2 he2
  obtain ⟨hp, g, d, t, os⟩ := s2
  refine xi_base (rest := [v2]) I2.kIn hB hx (fun h' hn k => ?_) (by show 1 <= 100; decide)
  have J := I2.write (x := e) (e := e) (o := excN e C none) (h' := h') (t' := t) (by rw [he2]; exact True.intro) (.inl rfl) k (by obtain ⟨t1, z⟩ := hn; exact ⟨_, z⟩) (excN_ok hn)
  have eH : upd H2 e (excN e C none) = H2 := by
    funext b
    by_cases hb : b = e
    · subst hb; rw [upd_same, he2]
    · rw [upd_ne hb]
  rw [eH] at J
  exact ⟨σ, H2, J, q⟩
def tSetX (K : Frag) (ta tv : TE) (f : Str) : TS := fun D σ H => tv σ H fun y H1 => ta σ H1 fun x H2 => ∃ (e C : Addr), x = .ref e /\ H2 e = some (excN e C none) /\ findIn K (.ref C) "__setattr__" = some (some (.builtin "object.__setattr__")) /\ mroVE K C = true /\ findIn K (.ref C) f = some none /\
  ∀ dx, H2 dx = none -> dx ≠ e -> D.nx σ (upd (upd H2 dx (.xd [(f, y)])) e (excN e C (some dx)))
theorem ps_setX {o value : Expr} {f : Str} {pos pos' : Pos} {ta tv : TE} (ha : PE X o ta) (hv : PE X value tv) (hs : swapsWith value (some (.Attribute o f pos')) pos.line X.env = pure false := by rfl) : PS X (.Assign [.Attribute o f pos'] value pos) (tSetX X.K ta tv f) := by
  intro pins s σ H D I h
  refine plainObj_wpAny_Assign_Attribute (thn (hv pins s σ H _ I h) fun u s1 ⟨y, H1, I1, ry, q⟩ => thn (ha pins s1 σ H1 _ I1 q) fun ov s2 ⟨x, H2, I2, rx, e, C, ex, ee, f1, f2, f3, q2⟩ => ?_) hs
  subst ex
  obtain rfl : ov = Value.ref e := rx
  obtain ⟨t0, hx⟩ := excN_at I2 ee
  have fr : H2 s2.heap.objs.size = none := I2.hok.fresh (Nat.le_refl _)
  have ne : s2.heap.objs.size ≠ e := Ne.symm (Nat.ne_of_lt (Heap.lt_size hx))
  refine xs_set I2.kIn f1 f2 f3 hx fun h' tk hx' hn k => ?_
  have hx1 : (h'.update e fun _ => ⟨.ref C, none, .fields (excF t0), #[]⟩).get? e = some ⟨.ref C, none, .fields (excF t0), #[]⟩ := Heap.get?_update_self _ hx' rfl
  have other : ∀ b, b ≠ e -> (h'.update e fun _ => ⟨.ref C, none, .fields (excF t0), #[]⟩).get? b = h'.get? b := fun b hb => Heap.get?_update_other _ _ (Ne.symm hb)
  have k1 : ∀ b o, s2.heap.get? b = some o -> (h'.update e fun _ => ⟨.ref C, none, .fields (excF t0), #[]⟩).get? b = some o := fun b o z => by
    by_cases hb : b = e
    · subst hb
      rw [hx] at z
      rw [hx1, z]
    · rw [other b hb]
      exact k b o hb z
  have J1 := I2.laid (a := s2.heap.objs.size) (o := .xd [(f, y)]) (t' := tk) k1 (Nat.le_refl _) ⟨_, hn.at fun o z => (other _ ne).trans z, fun g => by
    show RelO (List.lookup g [(f, y)]) (if g = f then some u else none)
    by_cases hg : g = f
    · subst hg
      rw [if_pos rfl, List.lookup_cons, beq_self_eq_true]
      exact ry
    · rw [if_neg hg, List.lookup_cons, beq_false_of_ne hg]
      exact True.intro⟩
  have J2 := J1.write (x := e) (e := e) (o := excN e C (some s2.heap.objs.size)) (h' := h') (t' := tk) (by rw [upd_ne (Ne.symm ne), ee]; exact True.intro) (.inl rfl) (fun b o hb z => (other b hb).symm.trans z) ⟨_, hx'⟩ (excN_ok ⟨t0, hx'⟩)
  exact ⟨σ, _, J2, q2 _ fr ne⟩
end
end L2
namespace L2
open PySem PySem.Spec PyProof.Rows PySem.W
def rem (H : Hp) (e : Addr) : Hp := fun b => if b = e then none else H b
theorem rem_same {H : Hp} {e : Addr} : rem H e e = none := if_pos rfl
theorem rem_ne {H : Hp} {e b : Addr} (h : b ≠ e) : rem H e b = H b := if_neg h
theorem rem_some {H : Hp} {e b : Addr} {o : HO} (h : rem H e b = some o) : b ≠ e /\ H b = some o := by
  by_cases hb : b = e
  · subst hb; rw [rem_same] at h; cases h
  · rw [rem_ne hb] at h; exact ⟨hb, h⟩
theorem Inv.drop {X : Cx} {pins : List (Addr × Obj)} {σ : St} {H : Hp} {s : Shared} {e : Addr} {φ : Heap -> Prop} (I : Inv X pins σ H s) (he : H e = some (.ext φ)) : Inv X pins σ (rem H e) s := by
  have nn : ∀ b, H b = none -> rem H e b = none := fun b z => by
    by_cases hb : b = e
    · subst hb; exact rem_same
    · rw [rem_ne hb]; exact z
  have kp : ∀ b o, H b = some o -> (∀ ψ, o ≠ .ext ψ) -> rem H e b = some o := fun b o z n => by
    have : b ≠ e := fun q => by subst q; rw [he] at z; cases z; exact n _ rfl
    rw [rem_ne this]; exact z
  refine ⟨I.ok, I.os, I.bare, ⟨I.base.keep, I.base.slot, fun b u z n hx => nn b (I.base.free b u z n hx), I.base.there, fun b xs z => kp _ _ (I.base.tups b xs z) (fun _ => by intro q; cases q), fun b u xs z => kp _ _ (I.base.frzs b u xs z) (fun _ => by intro q; cases q), fun b ps z => ?_⟩, I.loc, I.cell, nn _ I.free, fun x c z => nn _ (I.freeC x c z), fun p q => ?_, fun b o z => ?_, I.len⟩
  · obtain ⟨m, z'⟩ := I.base.tbls b ps z
    exact ⟨m, kp _ _ z' (fun _ => by intro q; cases q)⟩
  · obtain ⟨z, n, r⟩ := I.pin p q
    exact ⟨z, nn _ n, r⟩
  · obtain ⟨_, z'⟩ := rem_some z
    exact (I.hok b o z').stay (fun _ _ _ r => r) (fun c r => kp _ _ r (fun _ => by intro q; cases q)) fun c xs r => kp _ _ r (fun _ => by intro q; cases q)
section
variable {P : Program} {w : World} {K : PySem.W.Frag} {mg : Str -> Option Value} {base : Heap} {N : List Str} {qual : Str} {scope : Scope} {f : Addr} {cd : Value} {A : Around} {outer : List Env} {s0 : Shared} {H0 : Hp} {E : XK}
theorem leave_own {pins : List (Addr × Obj)} {σ : St} {H : Hp} {s2 : Shared} {e C : Addr} {od : Option Addr} {E2 : Value -> Shared -> Prop} (I : Inv (cxOf (CXq P w) P w K mg base N qual scope f cd A outer s0 H0 E) pins σ H s2)
    (h0 : s0.heap.get? e = none) (he : H e = some (excN e C od)) (q : E (.ref C) od (rem H e)) :
    wpAny (model P w) (A.deeper (envOfC qual scope s0.heap.objs.size f cd)) (leaving (envOfC qual scope s0.heap.objs.size f cd) (.ref e)) (fun _ s'' => CXq P w outer H0 s0 E (.ref e) s'') E2 s2 := by
  obtain ⟨t0, hx⟩ := excN_at I he
  have I' := I.drop he
  have eS : frs (envOfC qual scope s0.heap.objs.size f cd :: outer) = s0.heap.objs.size :: frs outer := rfl
  have hin : ∀ env ∈ (envOfC qual scope s0.heap.objs.size f cd :: outer), ∀ b, env.frame = some b -> b ∈ e :: frs (envOfC qual scope s0.heap.objs.size f cd :: outer) := fun env he b hb => List.mem_cons_of_mem _ (List.mem_filterMap.mpr ⟨env, he, hb⟩)
  have St : s2.heap.FunFrames base (envOfC qual scope s0.heap.objs.size f cd :: outer) := I.stack
  have hfr : (A.deeper (envOfC qual scope s0.heap.objs.size f cd)).frames = some (envOfC qual scope s0.heap.objs.size f cd :: outer) := I.ok.frames
  have ne0 : ∀ b o, s0.heap.get? b = some o -> b ≠ s0.heap.objs.size := fun b o z => Nat.ne_of_lt (Heap.lt_size z)
  have nee : ∀ b o, s0.heap.get? b = some o -> b ≠ e := fun b o z q => by rw [q, h0] at z; cases z
  have kept : ∀ b o, b ≠ e -> b ≠ s0.heap.objs.size -> b ∉ frs outer -> s2.heap.get? b = some o -> (PySem.W.hideAll s2.heap (e :: frs (envOfC qual scope s0.heap.objs.size f cd :: outer))).get? b = some o := fun b o n0 n1 n2 z =>
    PySem.W.hideAll_get _ z fun hm => by
      rw [eS] at hm
      rcases List.mem_cons.mp hm with h | h
      · exact n0 h
      · rcases List.mem_cons.mp h with h | h
        · exact n1 h
        · exact n2 h
  have trk : ∀ b u v, rem H e b = some v -> s2.heap.get? b = some u -> (PySem.W.hideAll s2.heap (e :: frs (envOfC qual scope s0.heap.objs.size f cd :: outer))).get? b = some u := fun b u v hv z => by
    refine PySem.W.hideAll_get _ z fun hm => ?_
    rcases List.mem_cons.mp hm with h | h
    · exact (rem_some hv).1 h
    · have := I'.stkFree b h
      rw [hv] at this
      cases this
  have z := wpAny_leaving_firstW (M := model P w) (E := fun _ _ => False) (Q := fun _ s' => ∃ h', s' = { s2 with heap := h' } /\ Heap.LeftW (PySem.W.hideAll s2.heap (e :: frs (envOfC qual scope s0.heap.objs.size f cd :: outer))) (envOfC qual scope s0.heap.objs.size f cd :: outer) e (.ref C) (.ref t0) s2.heap h') hfr (PySem.W.funFrames_hide St hin) rfl hx (fun b o z => PySem.W.of_hideAll _ z) (PySem.W.hideAll_none _ List.mem_cons_self) rfl rfl rfl fun h' hL => ⟨h', rfl, hL⟩
  refine wpAny_mono (wpAny_samed (E' := E2) dk_leaving z) (fun _ s' ⟨⟨h'', es, x1, ⟨_, _, x2⟩, x3, x4⟩, ds⟩ => ?_) fun _ _ z => z
  subst es
  have up : s2.heap.UpToSlots h'' := x4
  have slot : ∀ b o, b ∈ frs outer -> s2.heap.get? b = some o -> ∃ sl, h''.get? b = some { o with slots := sl } := fun b o hb z => up b o z (frames_nf I.funs hb z)
  have B : Un (frs outer) [] H0 (rem H e) s0.heap s2.heap := I'.base
  have fly : Heap.FlyingW (PySem.W.hideAll s2.heap (e :: frs (envOfC qual scope s0.heap.objs.size f cd :: outer))) outer e (.ref C) (.ref t0) h'' := ⟨x1, PySem.W.hideAll_none _ List.mem_cons_self, x2, x3⟩
  refine ⟨e, C, _, _, rem H e, od, rfl, I.os, I.bare, ⟨fun b o z n hb hx' => ?_, fun b o z n hb hx' => ?_, B.free, fun b o z hx' => ?_, B.tups, B.frzs, B.tbls⟩, ?_, fly, fun b o z hh hb => ?_, fun dx ex => ?_, q⟩
  · exact x1 b o (kept b o (nee b o z) (ne0 b o z) hb (B.keep b o z n hb hx'))
  · obtain ⟨sl, z2⟩ := B.slot b o z n hb hx'
    obtain ⟨sl', z3⟩ := slot b _ hb z2
    exact ⟨sl', z3⟩
  · obtain ⟨o', z2⟩ := B.there b o z hx'
    by_cases hb : b ∈ frs outer
    · obtain ⟨sl', z3⟩ := slot b _ hb z2
      exact ⟨_, z3⟩
    · exact ⟨_, x1 b o' (kept b o' (nee b o z) (ne0 b o z) hb z2)⟩
  · exact I'.hok.stays fun b u v hv z => x1 b u (trk b u v hv z)
  · have : ∃ u, (PySem.W.hideAll s2.heap (e :: frs (envOfC qual scope s0.heap.objs.size f cd :: outer))).get? b = some u := by
      rcases hh with ⟨q1, z1⟩ | ⟨q1, z1⟩
      · obtain ⟨o', z2⟩ := B.there b q1 z1 (by simp)
        exact ⟨o', kept b o' (nee b q1 z1) (ne0 b q1 z1) hb z2⟩
      · obtain ⟨u, z2⟩ := (I'.hok b q1 z1).there
        exact ⟨u, trk b u _ z1 z2⟩
    obtain ⟨u, hu⟩ := this
    have := x1 b u hu
    rw [z] at this
    cases this
    exact hu
  · obtain ⟨o', h3, _⟩ := fly.there
    exact ⟨o', h3, (ds.at hx h3).trans ex⟩
end
section
variable {M : Model} {A : Around} {E : Value -> Shared -> Prop} {env : Env} {K : Frag} {C : Addr} {bm : List Value}
theorem raiseStmt_own {s : Shared} {x : Sem Value} {Q : Flow -> Shared -> Prop} (hB : excIB K C bm = true) (hh : A.handled = none)
    (h : wpAny M A x (fun v s1 => ∃ e t od, v = .ref e /\ K.In s1.heap /\ s1.heap.get? e = some ⟨.ref C, od, .fields (excF t), #[]⟩ /\ E (.ref e) s1) E s) : wpAny M A (raiseStmt env (some x) none) Q E s := by
  unfold raiseStmt
  refine wpAny_bind (wpAny_mono h (fun v s1 h1 => ?_) fun _ _ x => x)
  obtain ⟨e, t, od, rfl, X, he, hE⟩ := h1
  obtain ⟨Na, nm, qn, bs, hd, sn, sub, ab, col, dd, k0, k1, k2, k3, k5, hC, T⟩ := excIB_of X hB
  have hcB : (Value.ref C :: bm).contains (.type "BaseException") = true := by rw [List.contains_cons, T.hasType bmVE_base, Bool.or_true]
  obtain ⟨hp, g, d, tk, os⟩ := s1
  repeat (first | with_reducible refine wpAny_loadPart_at he ?_ | with_reducible refine wpAny_loadPart_at hC ?_ | (with_reducible refine wpAny_isSubtype_exc hC ?_; rw [hcB]) | wp_step)
  exact wpAny_raiseNew_none hh hE
end
end L2
namespace L2
open PySem PySem.Spec PyProof.Rows PySem.W
section
variable {P : Program} {w : World} {K : PySem.W.Frag} {mg : Str -> Option Value} {base : Heap} {N : List Str} {qual : Str} {scope : Scope} {f : Addr} {cd : Value} {A : Around} {outer : List Env} {s0 : Shared} {H0 : Hp} {E : XK}
def tRaiseN (C : Addr) (sp : Sp) (E : XK) (ta : TA) : TS := fun _ σ H => ta σ H fun vs H1 => vs.length <= 100 /\ ∀ e, H1 e = none -> sp (.ref e :: (vs ++ [])) (upd H1 e (excN e C none)) (fun v H2 => v = .non /\ ∃ od, H2 e = some (excN e C od) /\ E (.ref C) od (rem H2 e)) E0
theorem ps_raiseN {x : Str} {C fI : Addr} {oI : Obj} {fd : FuncData} {ps : List Str} {sp : Sp} {k : Nat} {bm : List Value} {np cpos pos : Pos} {e0 : Expr} {ta : TA} (Fn : FnOk P w K mg base CX0 k fI fd ps sp) (bd : Binds K fd ps [])
    (hr : Room (k + 1) (A.deeper (envOfC qual scope s0.heap.objs.size f cd))) (hg : Gl (cxOf (CXq P w) P w K mg base N qual scope f cd A outer s0 H0 E) x) (hm : mg x = some (.ref C)) (hB : excIB K C bm = true) (hi : findIn K (.ref C) "__init__" = some (some (.ref fI)))
    (hfI : K.lookup fI = some oI) (hfc : oI.cls = .type "function")
    (ha : PA (cxOf (CXq P w) P w K mg base N qual scope f cd A outer s0 H0 E) [e0] ta) (hd : (x == ("__debug__" : Str)) = false := by decide)
    (hs : starEach [e0] (envOfC qual scope s0.heap.objs.size f cd) = [(false, eval e0 (envOfC qual scope s0.heap.objs.size f cd))] := by rfl) :
    PS (cxOf (CXq P w) P w K mg base N qual scope f cd A outer s0 H0 E) (.Raise (some (.Call (.Name x np) [e0] [] cpos)) none pos) (tRaiseN C sp E ta) := by
  intro pins s σ H D I h
  have hplain : (backTo cpos (starEach [e0] (envOfC qual scope s0.heap.objs.size f cd))).any (·.1) = false := by rw [hs]; rfl
  show wpAny (model P w) (A.deeper (envOfC qual scope s0.heap.objs.size f cd)) (exec (.Raise (some (.Call (.Name x np) [e0] [] cpos)) none pos) (envOfC qual scope s0.heap.objs.size f cd)) _ _ s
  rw [arm_exec_Raise]
  refine wpAny_bind (wpAny_standAt (raiseStmt_own (K := K) (C := C) (bm := bm) hB (I.ok.hd rfl) (wpAny_bind (wpAny_mono (wpAny_Call_ofName (ld_glob I hg hm ?_ hd)) (fun v s3 h3 => wpAny_bind (wpAny_standAt (wpAny_pure h3))) fun _ _ x => x))))
  unfold callWith
  refine wpAny_bind (wpAny_holding ?_)
  have hA := ha cpos pins s σ H _ I h
  have hA' : wpAny (model P w) (A.deeper (envOfC qual scope s0.heap.objs.size f cd)) (spliced (backTo cpos (starEach [e0] (envOfC qual scope s0.heap.objs.size f cd)))) _ _ s := hA
  rw [hs] at hA' ⊢
  refine Calls.evalArgs_plain (thn hA' fun us s2 ⟨vs, H2, I2, r2, q2⟩ => wpAny_bind (wpAny_standAt ?_))
  obtain ⟨Na, nm, qn, bs, hd', sn, sub, ab, col, dd, k0, k1, k2, k3, k5, hC, T⟩ := excIB_of I2.kIn hB
  obtain ⟨hp, g, d, tk, os⟩ := s2
  refine wpAny_bind (wpAny_keeperOf_exc hC ?_)
  refine wpAny_bind (xi_call I2.kIn hB hi hfI hfc (fun h' e hx => ?_) (by show us.length <= sizeLine; rw [<- r2.length]; exact Nat.le_trans q2.1 (by decide)))
  have hn : H2 e = none := by
    cases z : H2 e with
    | none => rfl
    | some o =>
      obtain ⟨u, zu⟩ := (I2.hok e o z).there
      rw [hx.new] at zu
      cases zu
  have gone : ∀ b o, hp.get? b = some o -> b ≠ e := fun b o z q => by rw [q, hx.new] at z; cases z
  have s0n : s0.heap.get? e = none := by
    cases z : s0.heap.get? e with
    | none => rfl
    | some o =>
      obtain ⟨o', z2⟩ := I2.base.there e o z (List.not_mem_nil)
      have := gone e o' z2
      exact absurd rfl this
  obtain ⟨t0, ht, _, _⟩ := hx.there
  have J1 := I2.kept (h' := h') (t' := tk) hx.keeps
  have J2 : Inv (cxOf (CXq P w) P w K mg base N qual scope f cd A outer s0 H0 E) pins σ (upd H2 e (excN e C none)) { heap := h', gens := g, drawn := d, toks := tk, os := os } := by
    refine J1.track hn (excN_ok ⟨t0, ht⟩) ?_ ?_ ?_ ?_
    · obtain ⟨_, ⟨o, _, _, z, _⟩, _⟩ := I2.loc
      exact Ne.symm (gone _ o z)
    · intro y c z
      obtain ⟨_, o, z2, _⟩ := I2.cell y c z
      exact gone _ o z2
    · intro p0 hp0
      exact gone _ _ (I2.pin p0 hp0).1
    · intro b u z hx
      obtain ⟨o', z2⟩ := I2.base.there b u z hx
      exact gone _ o' z2
  have hq := q2.2 e hn
  have rr : Vals (V.ref e :: (vs ++ [])) (Value.ref e :: (us ++ [])) := .cons rfl (r2.append .nil)
  have hl : (Value.ref e :: us ++ []).length = ps.length := by
    have e1 := rr.length
    rw [Fn.len _ _ _ _ hq] at e1
    exact e1.symm
  refine wpAny_call (codeAny_mono (Fn.run _ (envOfC qual scope s0.heap.objs.size f cd :: outer) _ _ ⟨Value.ref e :: us, []⟩ (Value.ref e :: (us ++ [])) _ _ E0 (hr.make C us []) (J2.env0.make C us []) (by simpa using bd { heap := h', gens := g, drawn := d, toks := tk, os := os } (Value.ref e :: us) J2.kIn hl) rr hq) fun r s' hq' => ?_)
  cases r with
  | error ev => exact False.elim hq'
  | ok fl =>
    cases fl with
    | ret u =>
      obtain ⟨v, H3, J3, rv, ev, od, q3, q4⟩ := J2.after hq'
      subst ev
      refine ⟨rv, wpAny_bind (wpAny_holding (wpAny_point (wpAny_pure ?_)))⟩
      obtain ⟨t3, h3⟩ := excN_at J3 q3
      exact ⟨e, t3, od, rfl, J3.kIn, h3, leave_own J3 s0n q3 q4⟩
    | next => exact False.elim hq'
    | brk => exact False.elim hq'
    | cont => exact False.elim hq'
end
end L2
namespace L2
open PySem PySem.Spec PyProof.Rows
section
variable {prog : Program} {w : World} {A : Around} {R : Result -> Shared -> Prop} {s : Shared}
end
section
variable {X : Cx} {scope : Scope} {N' : List Str} {fr : List (Option Nat)} {pins : List (Addr × Obj)} {σ : St} {H : Hp} {s : Shared} {fp : List Addr} {it : Addr} {tn : Nat -> Heap -> Prop} {J : It}
  {elt tg iter : Expr} {ifs : List Expr} {g : TG} {tt : TT} {te : TE} {pos : Pos} {fin : List V -> Hp -> Prop} {W : Nat -> Nat -> List V -> St -> Hp -> Prop} {RR : Value -> Addr -> Result -> Shared -> Prop} {E : Value -> Shared -> Prop}
end
section
variable {M : Model} {A : Around} {E : Value -> Shared -> Prop} {s : Shared}
end
section
variable {P : Program} {w : World} {K : PySem.W.Frag} {mg : Str -> Option Value} {base : Heap} {N : List Str} {qual : Str} {scope0 : Scope} {f : Addr} {cd : Value} {A : Around} {outer : List Env} {s0 : Shared} {H0 : Hp} {E : XK}
variable {scope : Scope} {N' : List Str} {fr : List (Option Nat)} {elt tg iter : Expr} {ifs : List Expr} {g : TG} {tt : TT} {te : TE} {pos : Pos}
end
end L2
namespace L2
open PySem PySem.Spec PyProof.Rows PySem.Builtin PySem.Builtin.Str
section
variable {X : Cx}
end
end L2
namespace L2
open PySem PySem.Spec PyProof.Rows
section
variable {X : Cx}
end
section
variable {X : Cx} {pins : List (Addr × Obj)} {σ : St} {H : Hp} {s : Shared} {d : Addr} {kvs : TTab}
end
section
variable {X : Cx} {o : Expr} {to : TE} {apos cpos : Pos}
end
end L2
namespace L2
open PySem PySem.Spec PyProof.Rows PySem.W
section
variable {P : Program} {w : World} {K : PySem.W.Frag} {mg : Str -> Option Value} {base : Heap} {k : Nat} {x : Str} {ps : List Str} {sp : Sp}
end
section
variable {X : Cx}
def rIsPs (K : PySem.W.Frag) : List V -> Hp -> VK -> Prop := fun xs H Q => ∃ (a C p : Addr) (od : Option Addr) (cs : List V) (b : Bool), xs = [.ref a, .ref p] /\ SqT K H p cs /\ H a = some (excP a C od) /\ ExcK K C /\ (∀ us, Vals cs us -> PySem.W.kitAny K (.ref C) us = some b) /\ Q (.bl b) H
theorem call_isPs : CallR X (.builtin "isinstance") (rIsPs X.K) := by
  intro pins s σ H xs us Q I r h
  obtain ⟨a, C, p, od, cs, b, rfl, hp, ha, Z, e, q⟩ := h
  obtain ⟨v1, v2, rfl, r1, r2⟩ := Vals.two r
  cases (show v1 = Value.ref a from r1)
  cases (show v2 = Value.ref p from r2)
  obtain ⟨⟨ob, _, hx1, hx2, _⟩, _⟩ := I.hok a _ ha
  obtain ⟨its, rv, ⟨o, ho, hc, n, hd⟩, _⟩ := I.tuple hp
  obtain ⟨oc, od', dt, sl⟩ := o
  have e1 : oc = .type "tuple" := hc
  have e2 : dt = .seq its.toArray n := hd
  subst e1 e2
  exact PySem.W.kia_tup (kitx_exc Z) I.kIn ⟨ob, hx1, hx2⟩ ho (e its rv) (by intro z; cases z) fun tk => ⟨.bl b, H, I.tok _, rfl, q⟩
end
end L2
namespace L2
open PySem PySem.Spec PyProof.Rows
section
variable {X : Cx}
def rIsAny (K : PySem.W.Frag) : List V -> Hp -> VK -> Prop := fun xs H Q => ∃ (x : V) (t : Value) (p : Addr) (cs : List V) (b : Bool), xs = [x, .ref p] /\ SqT K H p cs /\ TyOf K H x t /\ (∀ C, t ≠ .ref C) /\ (∀ us, Vals cs us -> PySem.W.kitAny K t us = some b) /\ Q (.bl b) H
theorem call_isAny : CallR X (.builtin "isinstance") (rIsAny X.K) := by
  intro pins s σ H xs us Q I r h
  obtain ⟨x, t, p, cs, b, rfl, hp, ty, nr, e, q⟩ := h
  obtain ⟨u, v2, rfl, rx, r2⟩ := Vals.two r
  cases (show v2 = Value.ref p from r2)
  obtain ⟨its, rv, ⟨o, ho, hc, n, hd⟩, _⟩ := I.tuple hp
  obtain ⟨oc, od', dt, sl⟩ := o
  have e1 : oc = .type "tuple" := hc
  have e2 : dt = .seq its.toArray n := hd
  subst e1 e2
  have e3 := e its rv
  have h : ∀ tk, EP X pins σ Q (.bool b) { s with toks := tk } := fun tk => ⟨.bl b, H, I.tok _, rfl, q⟩
  cases ty with
  | non => cases (show u = Value.none from rx); exact PySem.W.kia_tup PySem.W.kitx_none I.kIn True.intro ho e3 (fun z => nomatch z) h
  | bl y => cases (show u = Value.bool y from rx); exact PySem.W.kia_tup PySem.W.kitx_bool I.kIn True.intro ho e3 (fun z => nomatch z) h
  | int i => obtain ⟨t, q⟩ := (show ∃ t, u = Value.int i t from rx); cases q; exact PySem.W.kia_tup PySem.W.kitx_int I.kIn True.intro ho e3 (fun z => nomatch z) h
  | str y => obtain ⟨t, q⟩ := (show ∃ t, u = Value.str y t from rx); cases q; exact PySem.W.kia_tup PySem.W.kitx_str I.kIn True.intro ho e3 (fun z => nomatch z) h
  | flt y => obtain ⟨t, q⟩ := (show ∃ t, u = Value.float y t from rx); cases q; exact PySem.W.kia_tup PySem.W.kitx_float I.kIn True.intro ho e3 (fun z => nomatch z) h
  | @lst a xs ea =>
    cases (show u = Value.ref a from rx)
    obtain ⟨_, _, n, _, h1⟩ := (show ObjOk X.prog X.w H s.heap a (.lst xs) from I.hok a _ ea)
    exact PySem.W.kia_tup PySem.W.kitx_list I.kIn ⟨_, h1, rfl⟩ ho e3 (fun z => nomatch z) h
  | @frz a ob xs ea =>
    cases (show u = Value.ref a from rx)
    obtain ⟨_, _, _, n, _, h1⟩ := (show ObjOk X.prog X.w H s.heap a (.frz ob (.lst xs)) from I.hok a _ ea)
    exact PySem.W.kia_tup PySem.W.kitx_list I.kIn ⟨_, h1, rfl⟩ ho e3 (fun z => nomatch z) h
  | @tup a xs ea =>
    cases (show u = Value.ref a from rx)
    obtain ⟨_, _, _, p⟩ := (show ObjOk X.prog X.w H s.heap a (.tup xs) from I.hok a _ ea)
    obtain ⟨o, h1, h2, _⟩ := p
    exact PySem.W.kia_tup PySem.W.kitx_tuple I.kIn ⟨o, h1, h2⟩ ho e3 (fun z => nomatch z) h
  | @dK a kvs ea =>
    cases (show u = Value.ref a from rx)
    obtain ⟨_, _, vs, _, p⟩ := (show ObjOk X.prog X.w H s.heap a (.dK kvs) from I.hok a _ ea)
    obtain ⟨o, es, ep, h1, h2, _⟩ := p
    exact PySem.W.kia_tup PySem.W.kitx_dict I.kIn ⟨o, h1, h2.1⟩ ho e3 (fun z => nomatch z) h
  | @dT a kvs ea =>
    cases (show u = Value.ref a from rx)
    obtain ⟨_, _, xs, _, o, es, ep, h1, h2, _⟩ := (show ObjOk X.prog X.w H s.heap a (.dT kvs) from I.hok a _ ea)
    exact PySem.W.kia_tup PySem.W.kitx_dict I.kIn ⟨o, h1, h2.1⟩ ho e3 (fun z => nomatch z) h
  | ins => exact absurd rfl (nr _)
theorem pxq_or {st : Stmt} {t u : TSX} (h1 : PXQ X st t) (h2 : PXQ X st u) : PXQ X st (fun D DX σ H => t D DX σ H \/ u D DX σ H) := fun pins s σ H D DX I h => h.elim (h1 pins s σ H D DX I) (h2 pins s σ H D DX I)
end
section
variable {P : Program} {w : World} {K : PySem.W.Frag} {mg : Str -> Option Value} {base : Heap} {k : Nat} {x : Str} {ps : List Str} {sp : Sp}
end
end L2
namespace L2
open PySem PySem.Spec PyProof.Rows PySem.W
section
variable {X : Cx}
end
end L2
namespace L2
open PySem PySem.Spec PyProof.Rows
theorem free_is {t : SetTable} {es : Array (Int × Value)} (T : SetI t es) (h : Int) : ∃ N, (way t.mask h N).j ∉ t.place.toList /\ (∀ k, k < N -> (way t.mask h k).j ∈ t.place.toList) /\ t.freeSlot h = some ((way t.mask h N).j, false) := by
  obtain ⟨N, n1, n2, n3⟩ := first_free T.full h (l := t.place.toList) (by rw [Array.length_toList, T.len]; have := T.few; lia)
  refine ⟨N, n2, n3, ?_⟩
  unfold SetTable.freeSlot SetTable.probe
  have e0 : t.probeStart h = way t.mask h 0 := rfl
  rw [e0]
  rcases probe_go T.dum T.ris (fun _ => h + 1) h n2 n3 (10 * SetTable.turns t.mask) 0 (Nat.zero_le _) (by unfold SetTable.turns; lia) with ⟨k, i, _, _, _, _, z, _⟩ | ⟨e, _⟩
  · exact absurd z (by lia)
  · rw [e]
    rfl
theorem addT_ok {t : SetTable} {es : Array (Int × Value)} (T : SetI t es) (few : es.size < 60) (n : Int) : SetI (addT (es, t) n).2 (addT (es, t) n).1 /\ (addT (es, t) n).2.led = t.led /\ (addT (es, t) n).1.size = es.size + 1 := by
  obtain ⟨N, n2, n3, fe⟩ := free_is T n
  obtain ⟨r1, r2⟩ := put_ok T n2 n3 (.int n 0)
  have z1 : (SetTable.insertAt es (SetTable.below t.place (way t.mask n N).j) (n, Value.int n 0)).size = es.size + 1 := by
    have := (SetTable.insertAt_perm es (SetTable.below t.place (way t.mask n N).j) (n, Value.int n 0)).length_eq
    rw [Array.length_toList, Array.length_toList, Array.size_push] at this
    exact this
  have z2 : (SetTable.insertAt t.place (SetTable.below t.place (way t.mask n N).j) (way t.mask n N).j).size = es.size + 1 := by
    have := (SetTable.insertAt_perm t.place (SetTable.below t.place (way t.mask n N).j) (way t.mask n N).j).length_eq
    rw [Array.length_toList, Array.length_toList, Array.size_push, T.len] at this
    exact this
  have hA : ∀ L, layNew t es n (.int n 0) = L -> addT (es, t) n = (if (!L.2.2.1 && L.2.1.tooFull) = true then ((relayAll L.2.1 L.1 (SetTable.grown L.1.size)).1, (relayAll L.2.1 L.1 (SetTable.grown L.1.size)).2.1) else (L.1, L.2.1)) := fun L h => by subst h; rfl
  have hL : layNew t es n (.int n 0) = (SetTable.insertAt es (SetTable.below t.place (way t.mask n N).j) (n, Value.int n 0), SetTable.orStandIn { t with place := SetTable.insertAt t.place (SetTable.below t.place (way t.mask n N).j) (way t.mask n N).j } (SetTable.insertAt es (SetTable.below t.place (way t.mask n N).j) (n, Value.int n 0)).size, false, !SetTable.fits { t with place := SetTable.insertAt t.place (SetTable.below t.place (way t.mask n N).j) (way t.mask n N).j } (SetTable.insertAt es (SetTable.below t.place (way t.mask n N).j) (n, Value.int n 0)).size) := by
    unfold layNew
    rw [fe]
    dsimp only
    rw [put_is T.dum]
  rw [hA _ hL]
  clear hA hL
  dsimp only
  generalize SetTable.insertAt es (SetTable.below t.place (way t.mask n N).j) (n, Value.int n 0) = es1 at r2 z1 ⊢
  generalize SetTable.insertAt t.place (SetTable.below t.place (way t.mask n N).j) (way t.mask n N).j = pl1 at r1 r2 z2 ⊢
  have few' := T.few
  have fit : SetTable.fits { t with place := pl1 } es1.size = true := fits_of (by show pl1.size = _; rw [z2, z1]) T.dum (by show es1.size <= t.mask; rw [z1]; lia)
  have os : SetTable.orStandIn { t with place := pl1 } es1.size = { t with place := pl1 } := by unfold SetTable.orStandIn; rw [if_pos fit]
  rw [os]
  have fl : SetTable.fill { t with place := pl1 } = es.size + 1 := by
    unfold SetTable.fill
    show pl1.size + t.dummies.size = _
    rw [z2, T.dum]
    rfl
  by_cases c : (es.size + 1) * 5 >= t.mask * 3
  · have tf : SetTable.tooFull { t with place := pl1 } = true := by
      unfold SetTable.tooFull
      rw [fl]
      exact decide_eq_true c
    rw [tf]
    simp only [Bool.not_false, Bool.and_self, if_true]
    obtain ⟨m, hm, em, hm2⟩ : ∃ m, (m = 7 \/ m = 31 \/ m = 127 \/ m = 511) /\ SetTable.sizeAbove (SetTable.grown es1.size) - 1 = m /\ es1.size * 5 < m * 3 := by
      rw [z1]
      rcases T.msk with e | e | e | e
      · have : es.size = 4 := by lia
        rw [this]
        exact ⟨31, by decide, by decide +kernel, by decide⟩
      · have : es.size = 18 := by lia
        rw [this]
        exact ⟨127, by decide, by decide +kernel, by decide⟩
      · have : es.size = 76 := by lia
        rw [this]
        exact ⟨511, by decide, by decide +kernel, by decide⟩
      · lia
    obtain ⟨t2, order, e1, e2, e3, e4, e5⟩ := relay_ok (t := { t with place := pl1 }) (es := es1) hm em hm2 T.plain
    have cov : coversAll order es1.size = true := by
      have FF : Full m := by
        rcases hm with e | e | e | e <;> rw [e]
        · exact full7
        · exact full31
        · exact full127
        · exact full511
      obtain ⟨l, f1, f2, f3, f4⟩ := laid_ok FF t.finger (SetTable.movedTo { t with place := pl1 } m) t.led t.plain (es1.map (·.1)) (by rw [Array.size_map]; lia)
      have eo : order = (l.map (·.2)).toArray := by
        unfold SetTable.relaid at e1
        rw [em] at e1
        have e2' := f1.symm.trans e1
        injection e2' with e2'
        injection e2' with _ e2'
        exact e2'.symm
      rw [Array.size_map] at f3
      unfold coversAll
      rw [List.isPerm_iff, eo]
      exact f3
    unfold relayAll
    rw [e1]
    dsimp only
    rw [cov, e4.fits]
    simp only [Bool.and_self, if_true]
    exact ⟨e4, e5, by rw [e2, z1]⟩
  · have tf : SetTable.tooFull { t with place := pl1 } = false := by
      unfold SetTable.tooFull
      rw [fl]
      exact decide_eq_false c
    rw [tf]
    simp only [Bool.and_false, Bool.false_eq_true, if_false]
    exact ⟨⟨T.msk, T.dum, r1, by show pl1.size = _; rw [z2, z1], by show es1.size * 5 < t.mask * 3; rw [z1]; lia, r2, T.plain⟩, trivial, z1⟩
theorem tab_setA : ∀ (ns : List Int) (st : Array (Int × Value) × SetTable), SetI st.2 st.1 -> st.1.size + ns.length < 60 -> SetI (ns.foldl addT st).2 (ns.foldl addT st).1 /\ (ns.foldl addT st).2.led = st.2.led /\ (ns.foldl addT st).1.size = st.1.size + ns.length
  | [], st, T, _ => ⟨T, rfl, rfl⟩
  | n :: ns, (es, t), T, h => by
    rw [List.length_cons] at h
    obtain ⟨d, e, f⟩ := addT_ok T (show es.size < 60 by have : es.size + (ns.length + 1) < 60 := h; lia) n
    obtain ⟨a, b, c⟩ := tab_setA ns (addT (es, t) n) d (by rw [f]; have : es.size + (ns.length + 1) < 60 := h; lia)
    exact ⟨a, b.trans e, by rw [List.foldl_cons, c, f, List.length_cons]; show es.size + 1 + ns.length = es.size + (ns.length + 1); lia⟩
theorem tab_setI (led : Bool) (ns : List Int) (h : ns.length < 60) : SetI (tabOf led ns).2 (tabOf led ns).1 /\ (tabOf led ns).2.led = led /\ (tabOf led ns).1.size = ns.length := by
  obtain ⟨a, b, c⟩ := tab_setA ns (#[], SetTable.fresh 0 0 led) (SetI.fresh 0 0 led) (by show 0 + ns.length < 60; lia)
  exact ⟨a, b, c.trans (Nat.zero_add _)⟩
theorem tab_goes (ns : List Int) (h : ns.length < 60) : goesOn (tabOf true ns).2 ns.length = true := by
  obtain ⟨a, b, c⟩ := tab_setI true ns h
  have := ris_goes a b
  rw [c] at this
  exact this
theorem hash_smallG {n : Int} (h0 : 0 <= n) (h8 : n <= 60) : hashInt n = n := by
  obtain ⟨k, rfl⟩ := Int.eq_ofNat_of_zero_le h0
  have : ∀ k : Nat, k < 61 -> hashInt (k : Int) = (k : Int) := by decide +kernel
  exact this k (by lia)
def TabSG (h : Heap) (a : Addr) (led : Bool) (ns : List Int) : Prop :=
  ∃ o es ep t, h.get? a = some o /\ o.ExactSet /\ o.data = .set es ep t /\ es.map cE = (tabOf led ns).1 /\ t = (tabOf led ns).2 /\ (∀ e ∈ es.toList, (∃ tk, e.2 = .int e.1 tk) /\ 0 <= e.1 /\ e.1 <= 60) /\ (es.toList.map (·.1)).Perm ns /\ t.fits es.size = true /\ es.size < 100
theorem TabSG.at {h h' : Heap} {a : Addr} {led : Bool} {ns : List Int} (x : TabSG h a led ns) (k : ∀ o, h.get? a = some o -> h'.get? a = some o) : TabSG h' a led ns := let ⟨o, es, ep, t, g, r⟩ := x; ⟨o, es, ep, t, k _ g, r⟩
theorem TabSG.fresh {h : Heap} {a : Addr} {led : Bool} (hg : h.get? a = some { cls := .type "set", dict := none, data := .set #[] 0 (.fresh 0 0 led) }) : TabSG h a led [] :=
  ⟨_, #[], 0, .fresh 0 0 led, hg, ⟨rfl, rfl, rfl⟩, rfl, by simp [tabOf], rfl, (fun e he => by simp at he), .nil, by cases led <;> decide, by decide⟩
section
variable {prog : Program} {w : World} {A : Around} {E : Value -> Shared -> Prop} {s : Shared} {a : Addr} {led : Bool} {ns : List Int}
theorem elems_intG {es : Array (Int × Value)} (h : ∀ e ∈ es.toList, (∃ tk, e.2 = .int e.1 tk) /\ 0 <= e.1 /\ e.1 <= 60) : ElemsOf (intKind prog w) es.toList := by
  intro e he
  obtain ⟨⟨tk, e2⟩, b1, b2⟩ := h e he
  refine ⟨⟨e.1, ?_, ?_⟩, ?_⟩
  · rw [e2]; exact intKind_is _ _ _ _
  · exact (hash_smallG b1 b2).symm
  · rw [e2]; rfl
theorem find_intG {es : Array (Int × Value)} (h : ∀ e ∈ es.toList, (∃ tk, e.2 = .int e.1 tk) /\ 0 <= e.1 /\ e.1 <= 60) (k : Int) : (es.toList.findIdx? fun e => (intKind prog w).is k e.2).isSome = decide (k ∈ es.toList.map (·.1)) := by
  rw [List.findIdx?_isSome]
  have : ∀ e ∈ es.toList, (intKind prog w).is k e.2 = decide (e.1 = k) := fun e he => by
    obtain ⟨⟨tk, e2⟩, _⟩ := h e he
    rw [e2, KeyKind.is_eq_decide (intKind_is prog w e.1 tk) k]
    exact decide_eq_decide.mpr eq_comm
  rw [Bool.eq_iff_iff, List.any_eq_true, decide_eq_true_eq, List.mem_map]
  constructor
  · rintro ⟨e, he, q⟩
    rw [this e he] at q
    exact ⟨e, he, of_decide_eq_true q⟩
  · rintro ⟨e, he, q⟩
    exact ⟨e, he, by rw [this e he]; exact decide_eq_true q⟩
theorem add_tabG {k : Int} {tk : Tok} {Q : Bool -> Shared -> Prop} (hS : TabSG s.heap a led ns) (k0 : 0 <= k) (k8 : k <= 60) (room : ns.length < 90)
    (q : ∀ b h', Heap.SameBut a s.heap h' -> TabSG h' a led (step_dedup ns k) -> Q b { s with heap := h' }) : wpAny (model prog w) A (setAddHashed a (.int k tk) (hashInt k)) Q E s := by
  obtain ⟨o, es, ep, t, ho, hex, hd, ec, et, hel, pm, hf, hz⟩ := hS
  have el := elems_intG (prog := prog) (w := w) hel
  have zl : es.size = ns.length := by have := pm.length_eq; simpa using this
  have hb : es.size < scanBound := by unfold scanBound; omega
  unfold setAddHashed setAddHashedIn
  refine wpAny_holding (wpAny_bind (wpAny_setState_of ho hd hf ?_))
  dsimp only
  rw [byScan_of (knd := intKind prog w) (x := .int k tk) rfl hb el]
  simp only [↓reduceIte]
  unfold setAddByScan
  refine wpAny_bind (wpAny_bind (wpAny_rule (wpAny_bind (wpAny_setScan_of (knd := intKind prog w) (intKind_is prog w k tk) ho hd hf el ?_))))
  have fd := find_intG (prog := prog) (w := w) hel k
  cases hr : List.findIdx? (fun e => (intKind prog w).is k e.2) es.toList with
  | some j =>
    dsimp only
    rw [hr, Option.isSome_some] at fd
    have km : k ∈ ns := pm.mem_iff.mp (of_decide_eq_true fd.symm)
    have sd : step_dedup ns k = ns := by unfold step_dedup; rw [if_pos (List.any_eq_true.mpr ⟨k, km, by simp⟩)]
    refine wpAny_pure (wpAny_pure ?_)
    have := q false s.heap (Heap.SameBut.refl a s.heap) (by rw [sd]; exact ⟨o, es, ep, t, ho, hex, hd, ec, et, hel, pm, hf, hz⟩)
    exact this
  | none =>
    dsimp only
    rw [hr, Option.isSome_none] at fd
    have km : k ∉ ns := fun z => of_decide_eq_false fd.symm (pm.mem_iff.mpr z)
    have sd : step_dedup ns k = ns ++ [k] := by
      unfold step_dedup
      rw [if_neg (fun z => ?_)]
      obtain ⟨x, hx, e⟩ := List.any_eq_true.mp z
      have : x = k := by simpa using e
      exact km (by rw [<- this]; exact hx)
    have hk := hash_smallG k0 k8
    have lc := layNew_c t es k (.int k tk)
    have lp := layNew_perm t es k (.int k tk)
    have lf := layNew_fits t es k (.int k tk)
    have ta : addT (tabOf led ns) k = addT (es.map cE, t) k := by rw [ec, et]
    show wpAny _ _ (match layNew t es (hashInt k) (.int k tk) with | (es, t, wasDummy, gave) => _) _ _ s
    rw [hk]
    generalize hL : layNew t es k (.int k tk) = L at lc lp lf ⊢
    obtain ⟨es1, t1, wd, gave⟩ := L
    dsimp only at lc lp lf ⊢
    rw [Array.toList_push] at lp
    have hel1 : ∀ e ∈ es1.toList, (∃ tk, e.2 = .int e.1 tk) /\ 0 <= e.1 /\ e.1 <= 60 := fun e he => by
      rcases List.mem_append.mp (lp.mem_iff.mp he) with he | he
      · exact hel e he
      · rw [List.mem_singleton.mp he]; exact ⟨⟨tk, rfl⟩, k0, k8⟩
    have pm1 : (es1.toList.map (·.1)).Perm (ns ++ [k]) := by
      have := lp.map (·.1)
      rw [List.map_append] at this
      exact this.trans (pm.append (List.Perm.refl _))
    have z1 : es1.size = ns.length + 1 := by have := pm1.length_eq; simpa using this
    have ad : addT (es.map cE, t) k = if (!wd && t1.tooFull) = true then (((relayAll t1 es1 (SetTable.grown es1.size)).1.map cE), (relayAll t1 es1 (SetTable.grown es1.size)).2.1) else (es1.map cE, t1) := by
      unfold addT
      dsimp only
      rw [lc]
      dsimp only
      rw [Array.size_map, relayAll_c]
    have gw : ∀ (b : Bool) {s₁ : Shared} {Q' : Unit -> Shared -> Prop}, Q' () s₁ -> wpAny (model prog w) A (match b with | true => rule "set.scan.the-table-gave-way" | false => pure ()) Q' E s₁ :=
      fun b s₁ Q' hq => by cases b <;> first | exact wpAny_pure hq | exact wpAny_rule hq
    refine wpAny_bind (gw _ ?_)
    have hbv : hashByValue 8 (.int k tk) = pure true := hashByValue_scannable 8 rfl
    have tail : wpAny (model prog w) A (do
        storeSet a es1 t1
        if (!wd && t1.tooFull) = true then do
            (match (relayAll t1 es1 (SetTable.grown es1.size)).2.2 with | true => rule "set.scan.the-table-gave-way" | false => pure ())
            storeSet a (relayAll t1 es1 (SetTable.grown es1.size)).1 (relayAll t1 es1 (SetTable.grown es1.size)).2.1
            pure (some true)
          else pure (some true)) (fun r s' => ∃ h', s' = { s with heap := h' } /\ r = some true /\ Heap.SameBut a s.heap h' /\ TabSG h' a led (ns ++ [k])) E s := by
      refine wpAny_bind (wpAny_storeSet_of ho hd ?_ (by rw [sizeLine_eq]; omega))
      have g1 : (s.heap.update a (Obj.putSet es1 t1)).get? a = some { o with data := .set es1 (ep + 1) t1 } := by
        have := Heap.get?_update_self (Obj.putSet es1 t1) ho (by rw [putSet_of es1 t1 hd]; rfl)
        rw [putSet_of es1 t1 hd] at this; exact this
      have sb1 := Heap.SameBut.update s.heap a (Obj.putSet es1 t1)
      by_cases c : (!wd && t1.tooFull) = true
      · rw [if_pos c] at ad ⊢
        have rp := relayAll_perm t1 es1 (SetTable.grown es1.size)
        have rf := relayAll_fits t1 es1 (SetTable.grown es1.size)
        generalize hR : relayAll t1 es1 (SetTable.grown es1.size) = R at rp rf ad ⊢
        obtain ⟨es2, t2, g2⟩ := R
        dsimp only at rp rf ad ⊢
        have z2 : es2.size = ns.length + 1 := by rw [<- Array.length_toList, rp.length_eq, Array.length_toList, z1]
        refine wpAny_bind (gw _ (wpAny_bind (wpAny_storeSet_of g1 rfl ?_ (by rw [sizeLine_eq]; omega))))
        have g3 : ((s.heap.update a (Obj.putSet es1 t1)).update a (Obj.putSet es2 t2)).get? a = some { o with data := .set es2 (ep + 1 + 1) t2 } := by
          have := Heap.get?_update_self (Obj.putSet es2 t2) g1 (by rw [putSet_of es2 t2 rfl]; rfl)
          rw [putSet_of es2 t2 rfl] at this; exact this
        refine wpAny_pure ⟨_, rfl, rfl, sb1.trans (Heap.SameBut.update _ a _), _, es2, ep + 1 + 1, t2, g3, hex, rfl, ?_, ?_, fun e he => hel1 e (rp.mem_iff.mp he), (rp.map (·.1)).trans pm1, rf, by omega⟩
        · rw [tab_snoc, ta, ad]
        · rw [tab_snoc, ta, ad]
      · rw [if_neg c] at ad ⊢
        refine wpAny_pure ⟨_, rfl, rfl, sb1, _, es1, ep + 1, t1, g1, hex, rfl, ?_, ?_, hel1, pm1, lf, by omega⟩
        · rw [tab_snoc, ta, ad]
        · rw [tab_snoc, ta, ad]
    by_cases pl : t1.plain = true
    · rw [if_pos pl, hbv, pure_bind]
      simp only [if_true]
      refine wpAny_mono tail (fun r s' hr => ?_) fun _ _ x => x
      obtain ⟨h', rfl, rfl, sb, tb⟩ := hr
      exact wpAny_pure (q true h' sb (by rw [sd]; exact tb))
    · rw [if_neg pl, pure_bind]
      simp only [if_true]
      refine wpAny_mono tail (fun r s' hr => ?_) fun _ _ x => x
      obtain ⟨h', rfl, rfl, sb, tb⟩ := hr
      exact wpAny_pure (q true h' sb (by rw [sd]; exact tb))
end
--T3
section
variable {prog : Program} {w : World} {A : Around} {R : Result -> Shared -> Prop} {I : Addr} {fp wr : List Addr} {G : Array GenState -> Array GenState -> Prop} {n : Nat} {P : Nat -> Value -> Prop} {St : Nat -> Shared -> Prop}
theorem set_loopG (Wk : WalksS prog w A.in1 I fp wr G n P St) (S : Addr) (nS : S ∉ fp) (led : Bool) (val : Nat -> Int) (hval : ∀ i v, P i v -> ∃ t, v = .int (val i) t) (small : ∀ i, i < n -> 0 <= val i /\ val i <= 60) (few : n < 80) :
    ∀ (k i : Nat) (s : Shared), n - i = k -> i <= n -> St i s -> TabSG s.heap S led (firstMet val i) -> (∀ s', Moved (S :: wr) G s s' -> TabSG s'.heap S led (firstMet val n) -> R (.ok (.ret .none)) s') ->
      codeAny (model prog w) A (.builtin "set.update.loop" ⟨[.ref S, .ref I], []⟩) R s := by
  have nw : S ∉ wr := fun z => nS (Wk.sub _ z)
  have up : ∀ b ∈ wr, b ∈ S :: wr := fun b hb => List.mem_cons_of_mem _ hb
  intro k
  induction k with
  | zero =>
    intro i s ek hi st tb q
    obtain rfl : i = n := by omega
    refine codeAny_builtin PyProof.Rows.F.entry_set_update_loop ?_
    rw [Around.under_plainId PyProof.Rows.F.plain_set_update_loop _]
    show wpAny _ A.in1 (pyNext (.ref I) >>= _) _ _ s
    refine wpAny_bind (Wk.done s _ _ st fun s' mv => ?_)
    show wpAny _ A.in1 (ret Value.none) _ _ s'
    exact wpAny_pure (q s' (mv.mono up) (tb.at fun o e => mv.heap S _ nw e))
  | succ k ih =>
    intro i s ek hi st tb q
    have lt : i < n := by omega
    refine codeAny_builtin PyProof.Rows.F.entry_set_update_loop ?_
    rw [Around.under_plainId PyProof.Rows.F.plain_set_update_loop _]
    show wpAny _ A.in1 (pyNext (.ref I) >>= _) _ _ s
    refine wpAny_bind (Wk.item i s _ _ lt st fun v s' hP st' mv => ?_)
    obtain ⟨t, rfl⟩ := hval i v hP
    have tb' : TabSG s'.heap S led (firstMet val i) := tb.at fun o e => mv.heap S _ nw e
    show wpAny _ A.in1 (holding [Value.int (val i) t] (setAdd S (.int (val i) t)) >>= _) _ _ s'
    refine wpAny_bind (wpAny_holding ?_)
    unfold setAdd
    refine wpAny_holding (wpAny_bind ((intKind prog w).pyHash (k := val i) (intKind_is _ _ _ _) ?_))
    refine add_tabG (s := { s' with toks := s'.toks + 1 }) tb' (small i lt).1 (small i lt).2 (by have := firstMet_length_le val i; omega) fun b h' sb tb2 => ?_
    rw [<- firstMet_succ] at tb2
    refine wpAny_pure ⟨plainId_quiet PyProof.Rows.F.plain_set_update_loop _, ih (i + 1) _ (by omega) lt (Wk.frame _ s' _ _ st' (Nat.le_succ _) fun b hb o e => ?_) tb2 fun s2 mv2 tb3 => ?_⟩
    · rw [sb.2 b (fun z : b = S => nS (by rw [<- z]; exact hb))]; exact e
    · refine q s2 (Moved.trans Wk.gtrans ((mv.mono up).then_heap (Nat.le_succ _) fun b o hb e => ?_) mv2) tb3
      rw [sb.2 b (fun z : b = S => hb (by rw [z]; exact List.mem_cons_self))]; exact e
end
section
variable {prog : Program} {w : World} {A : Around} {E : Value -> Shared -> Prop} {s : Shared}
theorem call_set_toldG {l : Addr} {its : Array Value} {ns : List Int} {Q : Value -> Shared -> Prop} (hh : A.handled = none) (hl : s.heap.IsList l its) (hi : PyProof.Rows.IntsAre its.toList ns) (few : its.size < 80) (small : ∀ n ∈ ns, 0 <= n /\ n <= 60)
    (q : ∀ (h' : Heap) (tk : Nat), TabSG h' s.heap.objs.size (!w.params.followText "set-order") (firstMet (fun i => ns.getD i 0) its.size) -> (∀ b o, b < s.heap.objs.size -> s.heap.get? b = some o -> h'.get? b = some o) -> Q (.ref s.heap.objs.size) { s with heap := h', toks := tk }) :
    wpAny (model prog w) A (call (.type "set") [.ref l]) Q E s := by
  obtain ⟨mc, mt, hmro⟩ := F.called_set.mro
  have f1 := F.called_set.made
  have f2 := F.called_set.sub
  have f3 := F.called_set.notType
  have f4 := F.called_set.canCreate
  have f5 := F.typeCall_set_1 (.ref l)
  refine wpAny_call (codeAny_of_tree (show wpAny _ _ (callAny (.type "set") _) _ _ _ from wpAny_pure ⟨Code.quiet_builtin _ (by decide +kernel), codeAny_builtin F.entry_type_call ?_⟩))
  rw [Around.under_plain (weight_type_call_type "set" [.ref l] []) rfl]
  repeat (any_goals (first | assumption | wp_step))
  generalize hled : (!w.params.followText "set-order") = led at q
  have nw : codeAny (model prog w) A.in1 (.call (.builtin "set.__new__") ⟨[.type "set", .ref l], []⟩) (wants (fun obj s₁ => obj = .ref s.heap.objs.size /\ s₁ = { s with heap := s.heap.push { cls := .type "set", dict := none, data := .set #[] 0 (.fresh 0 0 led) } }) E) s := code_new_led (.ref l) (by rw [hled]; exact ⟨rfl, rfl⟩)
  refine codeAny_mono nw fun r s₁ hr => ?_
  cases r with
  | error e => exact hr
  | ok fl =>
    cases fl with
    | ret obj =>
      obtain ⟨rfl, rfl⟩ := hr
      have gS : (s.heap.push { cls := .type "set", dict := none, data := .set #[] 0 (.fresh 0 0 led) }).get? s.heap.objs.size = some { cls := .type "set", dict := none, data := .set #[] 0 (.fresh 0 0 led) } := Heap.get?_push_size _ rfl
      have ty : Shared.TypeIs { s with heap := s.heap.push { cls := .type "set", dict := none, data := .set #[] 0 (.fresh 0 0 led) } } (.ref s.heap.objs.size) "set" := ⟨_, gS, rfl⟩
      have f6 := F.called_set.init.lookup
      have f7 := F.called_set.init.bind (.ref s.heap.objs.size)
      repeat (any_goals (first | assumption | wp_step))
      refine codeAny_mono (codeAny_call_builtin (R := wants (fun r s₂ => r = .none /\ ∃ h' tk, s₂ = { s with heap := h', toks := tk } /\ TabSG h' s.heap.objs.size led (firstMet (fun i => ns.getD i 0) its.size) /\ (∀ b o, b < s.heap.objs.size -> s.heap.get? b = some o -> h'.get? b = some o)) E) F.called_set.init.plain F.entry_set_init (check_set_init_1 ty ?_)) fun r2 s2 hr2 => ?_
      · obtain ⟨⟨oc, od, odt, osl⟩, gl, c1, nl, c2⟩ := id hl
        simp only at c1 c2
        subst c1
        subst c2
        have gl' : (s.heap.push { cls := .type "set", dict := none, data := .set #[] 0 (.fresh 0 0 led) }).get? l = some { cls := .type "list", dict := od, data := .seq its nl, slots := osl } := Heap.get?_push_of_some _ gl
        have g1 := F.sub_list_set
        have g2 := F.sub_list_frozenset
        have g3 : (Value.type "list" == Value.type "dict") = false := by decide
        have hl1 : (s.heap.push { cls := .type "set", dict := none, data := .set #[] 0 (.fresh 0 0 led) }).IsList l its := ⟨_, gl', rfl, nl, rfl⟩
        unfold Builtin.«set.__init__» noKeywords Builtin.Frozenset.updateFrom
        generalize hPI : pyIter = PI
        wp_walk
        subst hPI
        refine wpAny_pyIter_list hl1 (wpAny_bind (wpAny_runValue ?_))
        have ll : l < s.heap.objs.size := Heap.lt_size gl
        have sz1 : (s.heap.push { cls := .type "set", dict := none, data := .set #[] 0 (.fresh 0 0 led) }).objs.size = s.heap.objs.size + 1 := Heap.size_push ..
        have hh3 : A.in1.in1.in1.handled = none := by simp [hh]
        have n1 : l ≠ (s.heap.push { cls := .type "set", dict := none, data := .set #[] 0 (.fresh 0 0 led) }).objs.size := by rw [sz1]; exact Nat.ne_of_lt (Nat.lt_succ_of_lt ll)
        have n2 : s.heap.objs.size ∉ [(s.heap.push { cls := .type "set", dict := none, data := .set #[] 0 (.fresh 0 0 led) }).objs.size, l] := by
          rw [sz1]
          intro z
          rcases List.mem_cons.mp z with z | z
          · exact Nat.ne_of_lt (Nat.lt_succ_self _) z
          · exact Nat.ne_of_gt ll (List.mem_singleton.mp z)
        have nl2 : its.size = ns.length := by have := hi.length; simpa using this
        refine set_loopG ((Walks.list hh3 _ l n1 its).toS) s.heap.objs.size n2 led (fun i => ns.getD i 0) (fun i v hv => PyProof.Rows.IntsAre.int_at hi i v (by rw [Array.getElem?_toList]; exact hv)) (fun i hi' => small _ (by
            have : i < ns.length := by omega
            rw [List.getD_eq_getElem?_getD, List.getElem?_eq_getElem this]
            exact List.getElem_mem this)) few (its.size - 0) 0 _ (by omega) (Nat.zero_le _) ⟨⟨_, Heap.get?_push_size _ rfl, rfl, rfl⟩, (hl1.push _)⟩ (TabSG.fresh (Heap.get?_push_of_some _ gS)) ?_
        intro s' mv tb
        obtain ⟨h', g', d', tk', os'⟩ := s'
        have e1 : g' = s.gens := mv.gens
        have e2 : d' = s.drawn := mv.drawn
        have e3 : os' = s.os := mv.os
        subst e1 e2 e3
        refine wpAny_pure (show wpAny _ _ (ret Value.none) _ _ _ from wpAny_pure ⟨rfl, h', tk', rfl, tb, fun b o hb e => ?_⟩)
        refine mv.heap b o (fun z => ?_) (Heap.get?_push_of_some _ (Heap.get?_push_of_some _ e))
        rcases List.mem_cons.mp z with z | z
        · exact Nat.ne_of_lt hb z
        · rw [List.mem_singleton.mp z, sz1] at hb
          exact absurd hb (Nat.not_lt.mpr (Nat.le_succ _))
      · cases r2 with
        | error e => exact hr2
        | ok fl2 =>
          cases fl2 with
          | ret r =>
            obtain ⟨rfl, h', tk, rfl, tb, kk⟩ := hr2
            repeat (any_goals (first | assumption | wp_step))
            exact q _ _ tb kk
          | next => exact hr2
          | brk => exact hr2
          | cont => exact hr2
    | next => exact hr
    | brk => exact hr
    | cont => exact hr
end
section
variable {prog : Program} {w : World} {A : Around} {E : Value -> Shared -> Prop} {s : Shared} {a : Addr}
theorem sorted_setG {ns : List Int} {Q : Value -> Shared -> Prop} (hh : A.handled = none) (hS : TabSG s.heap a (!w.params.followText "set-order") ns) (g : goesOn (tabOf true ns).2 ns.length = true) (h64 : ns.length < 64)
    (q : ∀ (h' : Heap) (tk : Nat) (l : Addr) (out : Array Value) (ms : List Int) (e : Nat), (∀ b o, s.heap.get? b = some o -> h'.get? b = some o) -> s.heap.objs.size <= l -> h'.get? l = some (seqObj "list" out e) -> IntsAre out.toList ms -> ms.Perm ns -> ms.Pairwise (· <= ·) -> Q (.ref l) { s with heap := h', toks := tk }) :
    wpAny (model prog w) A (call (.builtin "sorted") [.ref a]) Q E s := by
  obtain ⟨o, es, ep, t, ho, hex, hd, e1, e2, el, pm, hf, hz⟩ := hS
  have hsz : es.size = ns.length := by have := pm.length_eq; simpa using this
  have g' : w.params.followText "set-order" = false -> goesOn t es.size = true := fun z => by
    rw [z] at e2
    rw [e2, hsz]
    exact g
  refine Calls.call_function_entry kind_sorted plain_sorted entry_sorted (args_sorted1 _) ?_
  unfold Builtin.«sorted»
  refine wpAny_bind (m := checkCount "sorted" 1 1 _) (wpAny_pure (wpAny_bind (collect_set (by exact hh) ho hex hd hf g' (by lia) fun h1 tk k1 z1 => ?_)))
  have lv : ((ordOf w a ep es).toList.map (·.2)).length = ns.length := by rw [List.length_map, Array.length_toList, ord_size, hsz]
  have hI : IntsAre ((ordOf w a ep es).toList.map (·.2)) ((ordOf w a ep es).toList.map (·.1)) := by
    have all : ∀ e ∈ (ordOf w a ep es).toList, ∃ tk, e.2 = Value.int e.1 tk := fun e he => (el e ((ord_perm w a ep es).mem_iff.mp he)).1
    generalize (ordOf w a ep es).toList = L at all
    clear lv
    induction L with
    | nil => exact .nil
    | cons e r ih =>
      obtain ⟨tk, ee⟩ := all e List.mem_cons_self
      rw [List.map_cons, List.map_cons, ee]
      exact .cons _ _ (ih fun e he => all e (List.mem_cons_of_mem _ he))
  have pI : ((ordOf w a ep es).toList.map (·.1)).Perm ns := ((ord_perm w a ep es).map _).trans pm
  refine wpAny_bind (wpAny_newList ?_ (by rw [lv, sizeLine_eq]; lia))
  have oL : (h1.push (seqObj "list" ((ordOf w a ep es).toList.map (·.2)).toArray 0)).get? h1.objs.size = some (seqObj "list" ((ordOf w a ep es).toList.map (·.2)).toArray 0) := Heap.get?_push_size _ rfl
  refine wpAny_bind (wpAny_holding (wpAny_call_entry slot_list_sort ⟨_, oL, rfl⟩ entry_list_sort (list_sort_tree oL hI (by lia) fun out ms a1 a2 a3 => ⟨_, rfl, ?_⟩) (args_list_sort _)))
  obtain ⟨e, he⟩ := sortedHeap_at (out := out) oL
  refine wpAny_pure ⟨_, rfl, q _ _ _ out ms e (fun b o z => ?_) (Nat.le_of_lt z1) he a1 (a2.trans pI) a3⟩
  have lb := Heap.lt_size (k1 b o z)
  show (sortedHeap _ _ _ _).get? b = some o
  rw [sortedHeap_old (Nat.ne_of_lt lb) (by rw [size_push']; exact Nat.lt_succ_of_lt lb)]
  exact Heap.get?_push_of_some _ (k1 b o z)
end
section
variable {X : Cx}
def setOG (w : World) (a : Addr) (ns : List Int) : HO := .ext fun h => TabSG h a (!w.params.followText "set-order") ns
theorem call_setTG (hc : X.calm = true) : CallR X (.type "set") (fun xs H Q => ∃ (p : Addr) (ns : List Int), xs = [.ref p] /\ SqL X.K H p (ns.map V.int) /\ ns.length < 80 /\ (∀ n ∈ ns, 0 <= n /\ n <= 60) /\ ∀ l, H l = none -> Q (.ref l) (upd H l (setOG X.w l (firstMet (fun i => ns.getD i 0) ns.length)))) := by
  intro pins s σ H xs us Q I r h
  obtain ⟨p, ns, rfl, hp, hn, sm, q⟩ := h
  obtain ⟨u, rfl, ru⟩ := Vals.one r
  cases (show u = Value.ref p from ru)
  obtain ⟨its, r1, t1, _⟩ := I.list hp
  have hl : its.length = ns.length := by have := r1.length; rw [List.length_map] at this; lia
  refine call_set_toldG (I.ok.hd hc) t1.isList (by simpa using intsAre_V r1) (by rw [List.size_toArray]; lia) sm fun h' tk hS hk => ?_
  have hs : its.toArray.size = ns.length := by rw [List.size_toArray, hl]
  rw [hs] at hS
  refine ⟨.ref s.heap.objs.size, upd H s.heap.objs.size (setOG X.w _ _), I.laid (fun b o e => hk b o (Heap.lt_size e) e) (Nat.le_refl _) ⟨hS, ?_, fun h1 h2 a b => a.at b⟩, rfl, q _ (I.hok.fresh (Nat.le_refl _))⟩
  obtain ⟨o, _, _, _, g, _⟩ := hS
  exact ⟨o, g⟩
theorem call_sortedSG (hc : X.calm = true) : CallR X (.builtin "sorted") (fun xs H Q => ∃ (p : Addr) (ns : List Int), xs = [.ref p] /\ H p = some (setOG X.w p ns) /\ ns.length < 64 /\ goesOn (tabOf true ns).2 ns.length = true /\ ∀ (l : Addr) (ms : List Int), ms.Perm ns -> ms.Pairwise (· <= ·) -> H l = none -> Q (.ref l) (upd H l (.lst (ms.map V.int)))) := by
  intro pins s σ H xs us Q I r h
  obtain ⟨p, ns, rfl, hp, hn, gg, q⟩ := h
  obtain ⟨u, rfl, ru⟩ := Vals.one r
  cases (show u = Value.ref p from ru)
  obtain ⟨hS, _, _⟩ := I.hok p _ hp
  refine sorted_setG (I.ok.hd hc) hS gg hn fun h' tk l out ms e k fr he a1 a2 a3 => ?_
  refine ⟨.ref l, upd H l (.lst (ms.map V.int)), I.laid k fr ⟨?_, out.toList, e, vals_of_ints a1, by rw [he]⟩, rfl, q _ ms a2 a3 (I.hok.fresh fr)⟩
  rw [List.length_map, a2.length_eq]
  exact Nat.le_trans (Nat.le_of_lt hn) (by decide)
end
end L2
namespace My
open PySem L2
def top (i : Nat) : Stmt := PySem.Challenge.pw_manycounts_k85_no_drawings.main.body.getD i (.Pass ⟨0, 0, 0, 0⟩)
abbrev sNotPlane : Stmt := top 14
abbrev sIsWhole : Stmt := top 18
abbrev sEach : Stmt := top 19
abbrev sLesser : Stmt := top 22
abbrev sWhole : Stmt := top 23
abbrev sHeads : Stmt := top 25
abbrev sClus : Stmt := top 26
abbrev sUnder : Stmt := top 27
abbrev sJoined : Stmt := top 28
abbrev sDrawing : Stmt := top 30
abbrev sWebOf : Stmt := top 31
abbrev sRounds : Stmt := top 32
abbrev sRound : Stmt := top 33
abbrev sLands : Stmt := top 34
abbrev sOther : Stmt := top 35
abbrev sMate : Stmt := top 36
abbrev sAt : Stmt := top 38
abbrev sLRound : Stmt := top 39
abbrev sCount : Stmt := top 40
abbrev sLJoined : Stmt := top 41
abbrev sTurns : Stmt := top 42
abbrev sBad : Stmt := top 43
abbrev sSort : Stmt := top 44
abbrev sDue : Stmt := top 45
abbrev sLaw : Stmt := top 46
abbrev sNInit : Stmt := inClass sNotPlane 0
def TieAt (H : Hp) (v : V) (p : Int × Int) : Prop := ∃ a, v = .ref a /\ H a = some (.tup [.int p.1, .int p.2])
theorem TieAt.same {H H' : Hp} {v : V} {p : Int × Int} (h : TieAt H v p) (e : Same H H') : TieAt H' v p := let ⟨a, h1, h2⟩ := h; ⟨a, h1, e _ _ h2⟩
theorem ties_same {H H' : Hp} {xs : List V} {ps : List (Int × Int)} (h : Paired (TieAt H) xs ps) (e : Same H H') : Paired (TieAt H') xs ps := L2.Paired.mapP h fun _ _ q => q.same e
def norm (p : Int × Int) : Int × Int := if p.1 <= p.2 then (p.1, p.2) else (p.2, p.1)
structure WebAt (H : Hp) (w : V) (n : Int) (ps : List (Int × Int)) : Prop where
  ex : ∃ c d xs, w = .ref c /\ H c = some (.tup [.int n, .ref d]) /\ H d = some (.tup xs) /\ Paired (TieAt H) xs ps
theorem WebAt.same {H H' : Hp} {w : V} {n : Int} {ps : List (Int × Int)} (h : WebAt H w n ps) (e : Same H H') : WebAt H' w n ps := by
  obtain ⟨c, d, xs, h1, h2, h3, h4⟩ := h.ex
  exact ⟨c, d, xs, h1, e _ _ h2, e _ _ h3, ties_same h4 e⟩
structure Txt (K : W.Frag) (mg : Str -> Option Value) : Prop where
  isi : mg "isinstance" = none
  int : mg "int" = none
  bool : mg "bool" = none
  len : mg "len" = none
  tuple : mg "tuple" = none
  all : mg "all" = none
  list : mg "list" = none
  min : mg "min" = none
  max : mg "max" = none
  range : mg "range" = none
  set : mg "set" = none
  sorted : mg "sorted" = none
theorem boot_isi : bootBuiltins "isinstance" = some (.builtin "isinstance") := by first | rfl | decide +kernel
theorem boot_int' : bootBuiltins "int" = some (.type "int") := by first | rfl | decide +kernel
theorem boot_bool' : bootBuiltins "bool" = some (.type "bool") := by first | rfl | decide +kernel
theorem boot_tuple' : bootBuiltins "tuple" = some (.type "tuple") := by first | rfl | decide +kernel
theorem boot_list' : bootBuiltins "list" = some (.type "list") := by first | rfl | decide +kernel
theorem boot_all' : bootBuiltins "all" = some (.builtin "all") := by first | rfl | decide +kernel
theorem boot_min' : bootBuiltins "min" = some (.builtin "min") := by first | rfl | decide +kernel
theorem boot_max' : bootBuiltins "max" = some (.builtin "max") := by first | rfl | decide +kernel
theorem boot_sorted' : bootBuiltins "sorted" = some (.builtin "sorted") := by first | rfl | decide +kernel
def InN (n : Int) (p : Int × Int) : Prop := 0 <= p.1 /\ p.1 < n /\ 0 <= p.2 /\ p.2 < n
theorem mod_in (a n : Int) (h : 0 < n) : 0 <= a % n /\ a % n < n := ⟨Int.emod_nonneg _ (by lia), Int.emod_lt_of_pos _ h⟩
theorem cut_map (ns : List Int) (lo hi : Option Int) : ∃ ms : List Int, cutV (ns.map V.int) lo hi = ms.map V.int /\ ms.length <= ns.length := by
  refine ⟨(ns.drop (HT.sIx (ns.map V.int).length 0 lo)).take (HT.sIx (ns.map V.int).length (ns.map V.int).length hi - HT.sIx (ns.map V.int).length 0 lo), ?_, ?_⟩
  · unfold cutV
    rw [List.map_take, List.map_drop]
  · rw [List.length_take, List.length_drop]; lia
def ups (n : Int) : List Int := (List.range n.toNat).map fun (i : Nat) => (i : Int)
theorem upN_ups (n : Nat) : upN n = (ups n).map V.int := by
  unfold upN ups
  rw [List.map_map, Int.toNat_natCast]
  rfl
def at0 (l : List Int) (i : Int) : Int := l.getD i.toNat 0
def stepH (hs : List Int) (p : Int × Int) : List Int :=
  hs.map fun h => if h = (if at0 hs p.2 > at0 hs p.1 then at0 hs p.2 else at0 hs p.1) then (if at0 hs p.2 < at0 hs p.1 then at0 hs p.2 else at0 hs p.1) else h
def tieN (ps : List (Int × Int)) (k : Int) : Int × Int := ps.getD k.toNat (0, 0)
def hdF (ps : List (Int × Int)) (hs : List Int) (ks : List Int) : List Int := ks.foldl (fun hs k => stepH hs (tieN ps k)) hs
def stepM (st : List Int × Int) (p : Int × Int) : List Int × Int :=
  if at0 st.1 p.1 = at0 st.1 p.2 then st else (st.1.map fun m => if m = at0 st.1 p.2 then at0 st.1 p.1 else m, st.2 + 1)
def rkF (ps : List (Int × Int)) (st : List Int × Int) (ks : List Int) : List Int × Int := ks.foldl (fun st k => stepM st (tieN ps k)) st
def rk (n : Int) (ps : List (Int × Int)) (ks : List Int) : Int := (rkF ps (ups n, 0) ks).2
theorem getD_map {l : List Int} {f : Int -> Int} {i : Nat} (h : i < l.length) : (l.map f).getD i 0 = f (l.getD i 0) := by simp [List.getD, h]
theorem stepH_same {hs : List Int} {p : Int × Int} (h : at0 hs p.1 = at0 hs p.2) : stepH hs p = hs := by
  unfold stepH
  rw [h]
  have e : (fun x : Int => if x = (if at0 hs p.2 > at0 hs p.2 then at0 hs p.2 else at0 hs p.2) then (if at0 hs p.2 < at0 hs p.2 then at0 hs p.2 else at0 hs p.2) else x) = id := by
    funext x
    show _ = x
    split <;> simp_all
  rw [e, List.map_id]
theorem norm_cases (p : Int × Int) : (norm p).1 = p.1 /\ (norm p).2 = p.2 \/ (norm p).1 = p.2 /\ (norm p).2 = p.1 := by
  unfold norm
  split
  · exact .inl ⟨rfl, rfl⟩
  · exact .inr ⟨rfl, rfl⟩
theorem tieN_in {n : Int} {ps : List (Int × Int)} {k : Int} (hb : ∀ p ∈ ps, InN n p) (k0 : 0 <= k) (kl : k < ps.length) : InN n (tieN ps k) := by
  have : k.toNat < ps.length := by lia
  unfold tieN
  refine hb _ ?_
  simp [List.getD, this]
theorem ups_len (n : Int) : (ups n).length = n.toNat := by unfold ups; simp
theorem stepH_len (hs : List Int) (p : Int × Int) : (stepH hs p).length = hs.length := by unfold stepH; simp
theorem hdF_snoc (ps : List (Int × Int)) (hs ks : List Int) (k : Int) : hdF ps hs (ks ++ [k]) = stepH (hdF ps hs ks) (tieN ps k) := by unfold hdF; rw [List.foldl_append]; rfl
theorem hdF_len (ps : List (Int × Int)) : ∀ (ks hs : List Int), (hdF ps hs ks).length = hs.length
  | [], _ => rfl
  | k :: ks, hs => by
    show (hdF ps (stepH hs (tieN ps k)) ks).length = _
    rw [hdF_len ps ks, stepH_len]
theorem boot_range' : bootBuiltins "range" = some (.type "range") := by first | rfl | decide +kernel
theorem boot_set' : bootBuiltins "set" = some (.type "set") := by first | rfl | decide +kernel
theorem for_seqK {k : Kd} {K : W.Frag} {a : Addr} {xs : List V} {g : TG} {tb : TS} {D : Ends} {σ : St} {H : Hp} (Pv : Nat -> St -> Hp -> Prop) (h0 : Pv 0 σ H) (hl : ∀ i σ H, i <= xs.length -> Pv i σ H -> SqK k K H a xs)
    (hs : ∀ (i : Nat) (x : V) (σ : St) (H : Hp), xs[i]? = some x -> Pv i σ H -> g x σ H fun σ2 H2 => tb { D with nx := Pv (i + 1), ct := Pv (i + 1), bk := D.nx } σ2 H2) (hd : ∀ σ H, Pv xs.length σ H -> D.nx σ H) :
    ∃ W : Nat -> Nat -> St -> Hp -> Prop, (∃ m, W 0 m σ H) /\ ∀ i m σ H, W i m σ H ->
      ((ItK k K a).stop i H /\ D.nx σ H) \/ ((ItK k K a).go i H /\ ∃ N : St -> Hp -> Prop, (∀ σ' H', N σ' H' -> ∃ m', m' < m /\ W (i + 1) m' σ' H') /\ ∀ x H', (ItK k K a).yld i H x H' -> g x σ H' fun σ2 H2 => tb { D with nx := N, ct := N, bk := D.nx } σ2 H2) := by
  refine ⟨fun i m σ H => m = xs.length - i /\ i <= xs.length /\ Pv i σ H, ⟨xs.length, by simp, Nat.zero_le _, h0⟩, ?_⟩
  rintro i m σ H ⟨rfl, hi, p⟩
  have q := hl i σ H hi p
  by_cases hlt : i < xs.length
  · refine .inr ⟨itk_go q hlt, Pv (i + 1), fun σ' H' p' => ⟨xs.length - (i + 1), by lia, rfl, hlt, p'⟩, fun x H' y => ?_⟩
    obtain ⟨e, hy2⟩ := itk_yld q y
    subst e
    exact hs i x σ H' hy2 p
  · have e : i = xs.length := by lia
    subst e
    exact .inl ⟨itk_stop q (Nat.le_refl _), hd σ H p⟩
theorem at_int {l : List Int} {i : Int} (h0 : 0 <= i) (hl : i < l.length) : atI (l.map V.int) i = some (.int (at0 l i)) := by
  obtain ⟨j, rfl⟩ := Int.eq_ofNat_of_zero_le h0
  have hj : j < l.length := by lia
  refine atI_nat ?_
  unfold at0
  simp [List.getD, hj]
theorem at_tie {H : Hp} {xs : List V} {ps : List (Int × Int)} (h : Paired (TieAt H) xs ps) {k : Int} (h0 : 0 <= k) (hl : k < ps.length) : ∃ c, atI xs k = some (.ref c) /\ H c = some (.tup [.int (tieN ps k).1, .int (tieN ps k).2]) := by
  obtain ⟨j, rfl⟩ := Int.eq_ofNat_of_zero_le h0
  have xl := Paired.length h
  have hj : j < xs.length := by lia
  obtain ⟨p, e1, c, e2, e3⟩ := Paired.at h (show xs[j]? = some xs[j] by simp [hj])
  refine ⟨c, atI_nat (by rw [List.getElem?_eq_getElem hj, e2]), ?_⟩
  have : tieN ps (j : Int) = p := by
    unfold tieN
    rw [Int.toNat_natCast, List.getD_eq_getElem?_getD, e1]
    rfl
  rw [this]
  exact e3
def Ks (m : Nat) (ks : List Int) : Prop := ∀ k ∈ ks, 0 <= k /\ k < (m : Int)
def spHeads (K : W.Frag) : Sp := fun vs H Q _ => ∃ (wv : V) (pk : Addr) (n : Int) (ps : List (Int × Int)) (ks : List Int), vs = [wv, .ref pk] /\ WebAt H wv n ps /\ 1 <= n /\ n <= 16 /\ (∀ p ∈ ps, InN n p) /\ SqT K H pk (ks.map V.int) /\ Ks ps.length ks /\
  ∀ l H', Same H H' -> H' l = some (.lst ((hdF ps (ups n) ks).map V.int)) -> Q (.ref l) H'
theorem ten_line {n : Nat} (h : n <= 20) : n < sizeLine := Nat.lt_of_le_of_lt h (by decide)
section
variable {P : Program} {w : World} {K : W.Frag} {mg : Str -> Option Value} {base : Heap}
theorem scHeads : FnScope ["web", "pick", "heads", "k", "tie", "low", "high"] ["web", "pick"] (defScope sHeads) := ⟨rfl, rfl, rfl, by decide +kernel, rfl, by decide +kernel, by decide +kernel⟩
theorem nd3 : (["head", "high", "low"] : List Str).Nodup := by decide +kernel
theorem d_heads (T : Txt K mg) (S : Src K mg "heads_of" sHeads ["web", "pick"]) : Def P w K mg base 1 "heads_of" ["web", "pick"] (spHeads K) := by
  refine S.def scHeads (fun vs H Q E h => ?_) (fun f cdv A outer s H vs Q E hr h => ?_)
  · obtain ⟨_, _, _, _, _, rfl, _⟩ := h; rfl
  · obtain ⟨wv, pk, n, ps, ks, rfl, W, n1, n9, hb, hk, hks, q⟩ := h
    obtain ⟨c, d, xs, rfl, hc, hd, ht⟩ := W.ex
    obtain ⟨m, rfl⟩ := Int.eq_ofNat_of_zero_le (show 0 <= n by lia)
    refine ⟨_, pss_cons (ps_set (i := 2) scHeads.nd rfl (Or.inl rfl) (pe_callTy (call_list_rng rfl) rfl T.list boot_list' (pa_cons (pe_callTy call_range1 rfl T.range boot_range' (pa_cons (pe_ix (ix_tupK K) (pv 0) pe_int (fun _ _ => rfl)) pa_nil)) pa_nil)))
      (pss_cons (ps_for PassesOwn.never rfl (pi_seqK K .t (pv 1)) (pg_name (i := 3) scHeads.nd rfl (Or.inl rfl))
        (pss_cons (ps_set (i := 4) scHeads.nd rfl (Or.inl rfl) (pe_ix (ix_tupK K) (pe_ix (ix_tupK K) (pv 0) pe_int (fun _ _ => rfl)) (pv 3) (fun _ _ => rfl)))
        (pss_cons (ps_set (i := 5) scHeads.nd rfl (Or.inr rfl) (pe_callB (call_min2 rfl) (by rfl) T.min boot_min' (pa_cons (pe_ix (ix_listK K) (pv 2) (pe_ix (ix_tupK K) (pv 4) pe_int (fun _ _ => rfl)) (fun _ _ => rfl)) (pa_cons (pe_ix (ix_listK K) (pv 2) (pe_ix (ix_tupK K) (pv 4) pe_int (fun _ _ => rfl)) (fun _ _ => rfl)) pa_nil))))
        (pss_cons (ps_set (i := 6) scHeads.nd rfl (Or.inr rfl) (pe_callB (call_max2 rfl) (by rfl) T.max boot_max' (pa_cons (pe_ix (ix_listK K) (pv 2) (pe_ix (ix_tupK K) (pv 4) pe_int (fun _ _ => rfl)) (fun _ _ => rfl)) (pa_cons (pe_ix (ix_listK K) (pv 2) (pe_ix (ix_tupK K) (pv 4) pe_int (fun _ _ => rfl)) (fun _ _ => rfl)) pa_nil))))
        (pss_one (ps_setComp (i := 2) scHeads.nd rfl (Or.inl rfl) (N' := ["head", "high", "low"]) (fr := [none, some 6, some 5]) (compOk_of (by rfl)) rfl (pi_seqK K .l (pv 2))
          (fun _ _ _ _ => pg_name (i := 0) nd3 rfl (Or.inl rfl) (Or.inr rfl)) (fun _ _ _ _ => pifs_nil)
          (fun _ _ _ _ => pe_ifExp (pt_cmpR op_eq (pv 0) (pv 1) (nomark _)) (pv 2) (pv 0))))))))
      (pss_one (ps_ret (pv 2)))), ?_⟩
    have i0 : atI ([.int m, .ref d] : List V) 0 = some (.int m) := atI_nat (j := 0) rfl
    have i1 : atI ([.int m, .ref d] : List V) 1 = some (.ref d) := atI_nat (j := 1) rfl
    refine ⟨_, rfl, c, _, _, _, rfl, rfl, SqT.of hc, i0, _, rfl, fun p hp => ⟨p, m, rfl, upd_same, by lia, fun l hl => ?_⟩⟩
    have s1 := (Same.new (o := HO.rng 0 m) hp).trans (Same.new (o := HO.lst (upN m)) hl)
    have hl1 : (upd (upd H p (.rng 0 m)) l (.lst (upN m))) l = some (.lst ((ups m).map V.int)) := by rw [upd_same, upN_ups]
    generalize upd (upd H p (.rng 0 m)) l (.lst (upN m)) = H1 at s1 hl1 ⊢
    refine ⟨_, rfl, pk, rfl, ⟨_, s1.tup hk⟩, for_seqK (k := .t) (K := K) (a := pk) (xs := ks.map V.int) (fun i σ H' => ∃ l u v t r, σ = [some (.ref c), some (.ref pk), some (.ref l), u, v, t, r] /\ Same H H' /\ H' l = some (.lst ((hdF ps (ups m) (ks.take i)).map V.int))) ⟨l, _, _, _, _, rfl, s1, hl1⟩ (fun i σ H' _ ⟨_, _, _, _, _, _, z, _⟩ => z.tup hk) ?_ ?_⟩
    · rintro i x σ H' hx ⟨l, u, v, t, r, rfl, sm, hl⟩
      obtain ⟨k, ek, rfl⟩ : ∃ k, ks[i]? = some k /\ V.int k = x := by
        rw [List.getElem?_map] at hx
        cases e : ks[i]? with
        | none => rw [e] at hx; simp at hx
        | some k => rw [e] at hx; simp at hx; exact ⟨k, rfl, hx⟩
      obtain ⟨k0, kl⟩ := hks k (List.mem_of_getElem? ek)
      obtain ⟨tc, et, htc⟩ := at_tie ht k0 kl
      obtain ⟨b1, b2, b3, b4⟩ := tieN_in hb k0 kl
      generalize hhs : hdF ps (ups m) (ks.take i) = hs at hl
      have hsl : hs.length = m := by rw [<- hhs, hdF_len, ups_len]; simp
      have t0 : atI ([.int (tieN ps k).1, .int (tieN ps k).2] : List V) 0 = some (.int (tieN ps k).1) := atI_nat (j := 0) rfl
      have t1 : atI ([.int (tieN ps k).1, .int (tieN ps k).2] : List V) 1 = some (.int (tieN ps k).2) := atI_nat (j := 1) rfl
      have a0 := at_int (l := hs) (i := (tieN ps k).1) b1 (by lia)
      have a1 := at_int (l := hs) (i := (tieN ps k).2) b3 (by lia)
      have htc' := sm _ _ htc
      dsimp only [gName, List.set]
      refine ⟨_, rfl, c, _, _, _, rfl, rfl, SqT.of (sm _ _ hc), i1, _, rfl, d, _, _, _, rfl, rfl, SqT.of (sm _ _ hd), et, ?_⟩
      refine ⟨_, rfl, _, rfl, tc, _, _, _, rfl, rfl, SqT.of htc', t0, l, _, _, _, rfl, rfl, SqL.of hl, a0, _, rfl, _, rfl, tc, _, _, _, rfl, rfl, SqT.of htc', t1, l, _, _, _, rfl, rfl, SqL.of hl, a1, _, _, rfl, ?_⟩
      refine ⟨_, rfl, _, rfl, tc, _, _, _, rfl, rfl, SqT.of htc', t0, l, _, _, _, rfl, rfl, SqL.of hl, a0, _, rfl, _, rfl, tc, _, _, _, rfl, rfl, SqT.of htc', t1, l, _, _, _, rfl, rfl, SqL.of hl, a1, _, _, rfl, ?_⟩
      generalize hlow : (if at0 hs (tieN ps k).2 < at0 hs (tieN ps k).1 then at0 hs (tieN ps k).2 else at0 hs (tieN ps k).1) = low
      generalize hhigh : (if at0 hs (tieN ps k).2 > at0 hs (tieN ps k).1 then at0 hs (tieN ps k).2 else at0 hs (tieN ps k).1) = high
      refine ⟨_, rfl, l, rfl, ⟨_, SqL.of hl⟩, comp_seq (k := .l) (a := l) (xs := hs.map V.int) (fun σ => ∃ v, σ = [v, some (.int high), some (.int low)]) (fun j ys H2 => H2 = H' /\ ys = (hs.take j).map fun h => V.int (if h = high then low else h)) ⟨_, rfl⟩ ⟨rfl, rfl⟩ (by rw [List.length_map]; exact ten_line (by lia)) (fun j ys H2 _ z => SqL.of (by rw [z.1]; exact hl)) ?_ ?_⟩
      · rintro j x ys σ H2 N hx ⟨u, rfl⟩ ⟨rfl, rfl⟩ hN
        obtain ⟨h0, eh, rfl⟩ : ∃ h0, hs[j]? = some h0 /\ V.int h0 = x := by
          rw [List.getElem?_map] at hx
          cases e : hs[j]? with
          | none => rw [e] at hx; simp at hx
          | some k => rw [e] at hx; simp at hx; exact ⟨k, rfl, hx⟩
        dsimp only [gName, List.set]
        refine yesT ?_
        refine ⟨_, rfl, _, rfl, rfl, _, rfl, ?_⟩
        by_cases he : h0 = high
        · rw [decide_eq_true (show V.int h0 = V.int high by rw [he])]
          refine iteT ⟨_, rfl, ?_⟩
          refine hN _ _ _ ⟨_, rfl⟩ ⟨rfl, ?_⟩ (by simp)
          rw [take_succ_of eh, List.map_append, List.map_cons, List.map_nil, if_pos he]
        · rw [decide_eq_false (show ¬ V.int h0 = V.int high from fun z => he (by injection z))]
          refine iteF ⟨_, rfl, ?_⟩
          refine hN _ _ _ ⟨_, rfl⟩ ⟨rfl, ?_⟩ (by simp)
          rw [take_succ_of eh, List.map_append, List.map_cons, List.map_nil, if_neg he]
      · rintro ys H2 ⟨rfl, rfl⟩ p2 hp2
        refine ⟨p2, _, _, _, _, rfl, sm.trans (Same.new hp2), ?_⟩
        rw [upd_same, take_succ_of ek, hdF_snoc, hhs]
        unfold stepH
        rw [hlow, hhigh, List.length_map, List.take_length, List.map_map]
        rfl
    · rintro σ H' ⟨l, u, v, t, r, rfl, sm, hl⟩
      rw [List.length_map, List.take_length] at hl
      exact ⟨_, rfl, q l H' sm hl⟩
end
def spWPF : Sp := fun vs H Q _ => ∃ (wv : V) (n : Int) (ps : List (Int × Int)), vs = [wv] /\ WebAt H wv n ps /\ ps.length <= 8 /\ ∀ t H', Same H H' -> FzT H' t ((ups ps.length).map V.int) -> Q (.ref t) H'
section
variable {P : Program} {w : World} {K : W.Frag} {mg : Str -> Option Value} {base : Heap}
theorem scWP : FnScope ["web"] ["web"] (defScope sWhole) := ⟨rfl, rfl, rfl, by decide +kernel, rfl, by decide +kernel, by decide +kernel⟩
theorem d_wp (T : Txt K mg) (S : Src K mg "whole_pick" sWhole ["web"]) : Def P w K mg base 1 "whole_pick" ["web"] spWPF := by
  refine S.def scWP (fun vs H Q E h => ?_) (fun f cdv A outer s H vs Q E hr h => ?_)
  · obtain ⟨i, _, _, rfl, _⟩ := h; rfl
  · obtain ⟨wv, n, ps, rfl, W, hl8, q⟩ := h
    obtain ⟨c, d, xs, rfl, hc, hd, ht⟩ := W.ex
    have xl : xs.length = ps.length := Paired.length ht
    refine ⟨_, pss_one (ps_ret (pe_callTy (call_tuple_rngF rfl) rfl T.tuple boot_tuple' (pa_cons (pe_callTy call_range1 rfl T.range boot_range' (pa_cons (pe_callB (call_lenK K) (by rfl) T.len PySem.boot_len (pa_cons (pe_ix (ix_tupK K) (pv 0) pe_int (fun _ _ => rfl)) pa_nil)) pa_nil)) pa_nil))), ?_⟩
    have i1 : atI ([.int n, .ref d] : List V) 1 = some (.ref d) := atI_nat (j := 1) rfl
    refine ⟨_, rfl, c, _, _, _, rfl, rfl, SqT.of hc, i1, d, xs, rfl, .inr (SqT.of hd), _, rfl, fun p hp => ⟨p, xs.length, rfl, upd_same, by lia, fun l o oc od hl => ?_⟩⟩
    refine q l _ ((Same.new hp).trans (Same.new hl)) ?_
    rw [upN_ups, xl]
    exact FzT.new oc od
end
end My
namespace My
open PySem L2 PyProof.Rows
theorem at_map {l : List Int} {f : Int -> Int} {i : Int} (h0 : 0 <= i) (h : i < l.length) : at0 (l.map f) i = f (at0 l i) := getD_map (by lia)
theorem at_ups {n i : Int} (h0 : 0 <= i) (h : i < n) : at0 (ups n) i = i := by
  have : i.toNat < n.toNat := by lia
  unfold at0 ups
  simp [List.getD, this]
  lia
theorem mem_ups {n i : Int} : i ∈ ups n ↔ 0 <= i /\ i < n := by
  unfold ups
  rw [List.mem_map]
  constructor
  · rintro ⟨j, hj, rfl⟩
    have := List.mem_range.mp hj
    lia
  · rintro ⟨a, b⟩
    exact ⟨i.toNat, List.mem_range.mpr (by lia), by lia⟩
theorem ups_up (n : Int) : (ups n).Pairwise (· < ·) := by
  unfold ups
  rw [List.pairwise_map]
  exact List.pairwise_lt_range.imp fun h => by lia
theorem ups_snoc {j : Int} (h : 0 <= j) : ups (j + 1) = ups j ++ [j] := by
  unfold ups
  rw [show (j + 1).toNat = j.toNat + 1 by lia, List.range_succ, List.map_append]
  simp
  exact Int.max_eq_left h
structure GH (n : Int) (ps : List (Int × Int)) (ks hs : List Int) : Prop where
  len : (hs.length : Int) = n
  le : ∀ i, 0 <= i -> i < n -> 0 <= at0 hs i /\ at0 hs i <= i
  idem : ∀ i, 0 <= i -> i < n -> at0 hs (at0 hs i) = at0 hs i
  join : ∀ k ∈ ks, at0 hs (tieN ps k).1 = at0 hs (tieN ps k).2
  cl : ∀ F : Int -> Prop, (∀ k ∈ ks, (F (tieN ps k).1 ↔ F (tieN ps k).2)) -> ∀ i, 0 <= i -> i < n -> (F i ↔ F (at0 hs i))
theorem gh_start {n : Int} (h1 : 1 <= n) (ps : List (Int × Int)) : GH n ps [] (ups n) where
  len := by rw [ups_len]; lia
  le i a b := by rw [at_ups a b]; lia
  idem i a b := by rw [at_ups a b, at_ups a b]
  join k hk := nomatch hk
  cl F _ i a b := by rw [at_ups a b]
theorem gh_step {n : Int} {ps : List (Int × Int)} {ks hs : List Int} {k : Int} (G : GH n ps ks hs) (hall : ∀ k ∈ ks, InN n (tieN ps k)) (hp : InN n (tieN ps k)) : GH n ps (ks ++ [k]) (stepH hs (tieN ps k)) := by
  generalize hp' : tieN ps k = p at hp ⊢
  obtain ⟨a1, a2, b1, b2⟩ := id hp
  have ln := G.len
  by_cases he : at0 hs p.1 = at0 hs p.2
  · rw [stepH_same he]
    refine ⟨G.len, G.le, G.idem, fun j hj => ?_, fun F hF i h0 hi => G.cl F (fun j hj => hF j (List.mem_append_left _ hj)) i h0 hi⟩
    rcases List.mem_append.mp hj with z | z
    · exact G.join j z
    · rw [List.mem_singleton.mp z, hp']; exact he
  · obtain ⟨low, high, lh, es, fl, fh, lp, lle, dom⟩ : ∃ low high, low < high /\ stepH hs p = hs.map (fun x => if x = high then low else x) /\ at0 hs low = low /\ at0 hs high = high /\ 0 <= low /\ high < n /\ ((at0 hs p.1 = low /\ at0 hs p.2 = high) \/ (at0 hs p.1 = high /\ at0 hs p.2 = low)) := by
      have la := G.le p.1 a1 a2
      have lb := G.le p.2 b1 b2
      have ia := G.idem p.1 a1 a2
      have ib := G.idem p.2 b1 b2
      by_cases hlt : at0 hs p.2 < at0 hs p.1
      · refine ⟨at0 hs p.2, at0 hs p.1, hlt, ?_, ib, ia, lb.1, by lia, .inr ⟨rfl, rfl⟩⟩
        unfold stepH
        rw [if_neg (by lia), if_pos hlt]
      · refine ⟨at0 hs p.1, at0 hs p.2, by lia, ?_, ia, ib, la.1, by lia, .inl ⟨rfl, rfl⟩⟩
        unfold stepH
        rw [if_pos (by lia), if_neg hlt]
    rw [es]
    have am : ∀ i, 0 <= i -> i < n -> at0 (hs.map fun x => if x = high then low else x) i = if at0 hs i = high then low else at0 hs i := fun i h0 hi => at_map h0 (by lia)
    refine ⟨by rw [List.length_map]; exact ln, fun i h0 hi => ?_, fun i h0 hi => ?_, fun j hj => ?_, fun F hF i h0 hi => ?_⟩
    · rw [am i h0 hi]
      have := G.le i h0 hi
      split <;> lia
    · rw [am i h0 hi]
      have l1 := G.le i h0 hi
      by_cases c : at0 hs i = high
      · rw [if_pos c, am low lp (by lia), fl, if_neg (by lia)]
      · rw [if_neg c, am (at0 hs i) l1.1 (by lia), G.idem i h0 hi, if_neg c]
    · have inj : InN n (tieN ps j) := by
        rcases List.mem_append.mp hj with z | z
        · exact hall j z
        · rw [List.mem_singleton.mp z, hp']; exact hp
      obtain ⟨c1, c2, c3, c4⟩ := inj
      rw [am _ c1 c2, am _ c3 c4]
      rcases List.mem_append.mp hj with z | z
      · rw [G.join j z]
      · rw [List.mem_singleton.mp z, hp']
        rcases dom with ⟨d1, d2⟩ | ⟨d1, d2⟩ <;> rw [d1, d2] <;> simp
    · have old := G.cl F (fun j hj => hF j (List.mem_append_left _ hj))
      have fp : F p.1 ↔ F p.2 := by have := hF k (by simp); rw [hp'] at this; exact this
      rw [am i h0 hi, old i h0 hi]
      by_cases c : at0 hs i = high
      · rw [if_pos c, c]
        have o1 := old p.1 a1 a2
        have o2 := old p.2 b1 b2
        rcases dom with ⟨d1, d2⟩ | ⟨d1, d2⟩
        · rw [d1] at o1; rw [d2] at o2
          exact o2.symm.trans (fp.symm.trans o1)
        · rw [d1] at o1; rw [d2] at o2
          exact o1.symm.trans (fp.trans o2)
      · rw [if_neg c]
theorem gh_go {n : Int} {ps : List (Int × Int)} : ∀ (ks done hs : List Int), (∀ k ∈ done ++ ks, InN n (tieN ps k)) -> GH n ps done hs -> GH n ps (done ++ ks) (hdF ps hs ks)
  | [], done, hs, _, G => by rw [List.append_nil]; exact G
  | k :: ks, done, hs, h, G => by
    have := gh_go ks (done ++ [k]) (stepH hs (tieN ps k)) (by rw [List.append_assoc]; exact h) (gh_step G (fun j hj => h j (List.mem_append_left _ hj)) (h k (by simp)))
    rw [List.append_assoc] at this
    exact this
theorem gh_run {n : Int} {ps : List (Int × Int)} {ks : List Int} (h1 : 1 <= n) (hb : ∀ p ∈ ps, InN n p) (hk : Ks ps.length ks) : GH n ps ks (hdF ps (ups n) ks) :=
  gh_go ks [] (ups n) (fun k h => tieN_in hb (hk k h).1 (hk k h).2) (gh_start h1 ps)
def under (n : Int) (hs : List Int) (h : Int) : List Int := (ups n).filter fun i => decide (at0 hs i = h)
def hpts (n : Int) (hs : List Int) : List Int := (ups n).filter fun i => decide (at0 hs i = i)
def parts (n : Int) (hs : List Int) : List (List Int) := (hpts n hs).map (under n hs)
theorem mem_hpts {n : Int} {hs : List Int} {i : Int} : i ∈ hpts n hs ↔ (0 <= i /\ i < n) /\ at0 hs i = i := by
  unfold hpts; rw [List.mem_filter, mem_ups, decide_eq_true_iff]
theorem hpts_up (n : Int) (hs : List Int) : (hpts n hs).Pairwise (· <= ·) := ((ups_up n).filter _).imp fun h => by lia
theorem perm_up {l m : List Int} (p : l.Perm m) (h1 : l.Pairwise (· <= ·)) (h2 : m.Pairwise (· <= ·)) : l = m := List.Perm.eq_of_pairwise (fun a b _ _ h1 h2 => by lia) h1 h2 p
theorem same_perm {l m : List Int} (h1 : l.Nodup) (h2 : m.Nodup) (h : ∀ i, i ∈ l ↔ i ∈ m) : l.Perm m := (List.perm_ext_iff_of_nodup h1 h2).mpr h
theorem met_heads {n : Int} {ps : List (Int × Int)} {ks hs : List Int} (G : GH n ps ks hs) : ∀ j : Nat, (j : Int) <= n -> firstMet (fun i => hs.getD i 0) j = (ups j).filter fun i => decide (at0 hs i = i)
  | 0, _ => rfl
  | j + 1, h => by
    have ih := met_heads G j (by lia)
    have l1 := G.le j (by lia) (by lia)
    have l2 := G.idem j (by lia) (by lia)
    have ej : hs.getD j 0 = at0 hs j := rfl
    rw [firstMet_succ, ih, show ((j + 1 : Nat) : Int) = (j : Int) + 1 by lia, ups_snoc (by lia), List.filter_append, ej]
    unfold step_dedup
    by_cases c : at0 hs j = (j : Int)
    · have : (((ups j).filter fun i => decide (at0 hs i = i)).any (· == at0 hs j)) = false := by
        rw [List.any_eq_false]
        intro x hx e
        have : x = at0 hs j := by simpa using e
        have := (mem_ups.mp (List.mem_filter.mp hx).1).2
        lia
      rw [this]
      simp [c]
    · have : (((ups j).filter fun i => decide (at0 hs i = i)).any (· == at0 hs j)) = true := by
        rw [List.any_eq_true]
        exact ⟨at0 hs j, List.mem_filter.mpr ⟨mem_ups.mpr ⟨l1.1, by lia⟩, by simpa using l2⟩, by simp⟩
      rw [this]
      simp [c]
end My
namespace My
open PySem L2
theorem comp_enum {k : Kd} {K : W.Frag} {a : Addr} {xs : List V} {g : TG} {tt : TT} {te : TE} {fin : List V -> Hp -> Prop} {σ : St} {H : Hp} (S : St -> Prop) (Pv : Nat -> List V -> Hp -> Prop) (hσ : S σ) (h0 : Pv 0 [] H) (hz : xs.length < sizeLine)
    (hl : ∀ i ys H, i <= xs.length -> Pv i ys H -> SqK k K H a xs)
    (hs : ∀ (i : Nat) (x : V) (p : Addr) (ys : List V) (σ : St) (H : Hp) (N : List V -> St -> Hp -> Prop), xs[i]? = some x -> S σ -> Pv i ys H -> H p = none -> (∀ ys' σ' H', S σ' -> Pv (i + 1) ys' H' -> ys'.length <= ys.length + 1 -> N ys' σ' H') ->
      g (.ref p) σ (upd H p (.tup [.int i, x])) fun σ2 H2 => tt σ2 H2 fun b H3 => if b = true then te σ2 H3 fun y H4 => N (ys ++ [y]) σ2 H4 else N ys σ2 H3)
    (hd : ∀ ys H, Pv xs.length ys H -> fin ys H) : ∃ W, CompW (ItE k K a) g tt te fin W /\ ∃ m, W 0 m [] σ H := by
  refine ⟨fun i m ys σ H => m = xs.length - i /\ i <= xs.length /\ ys.length <= i /\ S σ /\ Pv i ys H, ?_, xs.length, by simp, Nat.zero_le _, Nat.le_refl _, hσ, h0⟩
  rintro i m ys σ H ⟨rfl, hi, hy, hS, p⟩
  have q := hl i ys H hi p
  by_cases hlt : i < xs.length
  · refine .inr ⟨⟨xs, xs[i], q, by simp [hlt]⟩, by lia, fun x H' y => ?_⟩
    obtain ⟨r, x, hn, rfl, hx2, rfl⟩ := y
    exact hs i x r ys σ H (fun ys' σ' H'' => ∃ m', m' < xs.length - i /\ m' = xs.length - (i + 1) /\ i + 1 <= xs.length /\ ys'.length <= i + 1 /\ S σ' /\ Pv (i + 1) ys' H'') (hx2 xs q) hS p hn (fun ys' σ' H'' a b c => ⟨_, by lia, rfl, hlt, by lia, a, b⟩)
  · have e : i = xs.length := by lia
    subst e
    exact .inl ⟨⟨xs, q, Nat.le_refl _⟩, by lia, hd ys H p⟩
def PartAt (H0 H : Hp) (v : V) (ns : List Int) : Prop := ∃ a, v = .ref a /\ H0 a = none /\ H a = some (.lst (ns.map V.int))
theorem PartAt.same {H0 H H' : Hp} {v : V} {ns : List Int} (h : PartAt H0 H v ns) (e : Same H H') : PartAt H0 H' v ns := let ⟨a, h1, h2, h3⟩ := h; ⟨a, h1, h2, e _ _ h3⟩
theorem parts_same {H0 H H' : Hp} {xs : List V} {pp : List (List Int)} (h : Paired (PartAt H0 H) xs pp) (e : Same H H') : Paired (PartAt H0 H') xs pp := L2.Paired.mapP h fun _ _ q => q.same e
def spUnder (K : W.Frag) : Sp := fun vs H Q _ => ∃ (l : Addr) (n : Int) (hs : List Int) (h : Int), vs = [.ref l, .int h] /\ SqL K H l (hs.map V.int) /\ (hs.length : Int) = n /\ n <= 16 /\ ∀ p H', Same H H' -> H p = none -> H' p = some (.lst ((under n hs h).map V.int)) -> Q (.ref p) H'
def spClus (K : W.Frag) : Sp := fun vs H Q _ => ∃ (wv : V) (pk : Addr) (n : Int) (ps : List (Int × Int)) (ks : List Int), vs = [wv, .ref pk] /\ WebAt H wv n ps /\ 1 <= n /\ n <= 16 /\ (∀ p ∈ ps, InN n p) /\ SqT K H pk (ks.map V.int) /\ Ks ps.length ks /\
  ∀ l xs H', Same H H' -> H l = none -> H' l = some (.lst xs) -> Paired (PartAt H H') xs (parts n (hdF ps (ups n) ks)) -> Q (.ref l) H'
section
variable {P : Program} {w : World} {K : W.Frag} {mg : Str -> Option Value} {base : Heap}
theorem scUnder : FnScope ["heads", "head"] ["heads", "head"] (defScope sUnder) := ⟨rfl, rfl, rfl, by decide +kernel, rfl, by decide +kernel, by decide +kernel⟩
theorem nd3u : (["point", "own", "head"] : List Str).Nodup := by decide +kernel
theorem d_under (T : Txt K mg) (henum : mg "enumerate" = none) (S : Src K mg "points_under" sUnder ["heads", "head"]) : Def P w K mg base 1 "points_under" ["heads", "head"] (spUnder K) := by
  refine S.def scUnder (fun vs H Q E h => ?_) (fun f cdv A outer s H vs Q E hr h => ?_)
  · obtain ⟨_, _, _, _, rfl, _⟩ := h; rfl
  · obtain ⟨l, n, hs, h, rfl, hl, hlen, h9, q⟩ := h
    refine ⟨_, pss_one (ps_ret (pe_comp (N' := ["point", "own", "head"]) (fr := [none, none, some 1]) (compOk_of (by rfl)) rfl (pi_enumK K .l rfl henum (pa_cons (pv 0) pa_nil))
      (g := gTup K 2 (gCons (gName 0) (gCons (gName 1) gNil))) (fun _ _ _ _ => pg_tupK K 2 rfl (pgs_cons (pg_name (i := 0) nd3u rfl (Or.inl rfl) (Or.inr rfl)) (pgs_cons (pg_name (i := 1) nd3u rfl (Or.inl rfl) (Or.inr rfl)) pgs_nil)))
      (fun _ _ _ _ => pifs_one (pt_cmpR op_eq (pv 1) (pv 2) (nomark _))) (fun _ _ _ _ => pv 0))), ?_⟩
    refine ⟨_, rfl, l, _, rfl, hl, comp_enum (k := .l) (a := l) (xs := hs.map V.int) (fun σ => ∃ u v, σ = [u, v, some (.int h)]) (fun i ys H2 => Same H H2 /\ ys = ((ups i).filter fun j => decide (at0 hs j = h)).map V.int) ⟨_, _, rfl⟩ ⟨Same.refl H, rfl⟩ (by rw [List.length_map]; exact ten_line (by lia)) (fun j ys H2 _ z => z.1.seq hl) ?_ ?_⟩
    · rintro j x p ys σ H2 N hx ⟨u, v, rfl⟩ ⟨sm, rfl⟩ hp hN
      obtain ⟨h0, eh, rfl⟩ : ∃ h0, hs[j]? = some h0 /\ V.int h0 = x := by
        rw [List.getElem?_map] at hx
        cases e : hs[j]? with
        | none => rw [e] at hx; simp at hx
        | some k => rw [e] at hx; simp at hx; exact ⟨k, rfl, hx⟩
      refine ⟨p, _, rfl, SqT.of upd_same, rfl, _, _, rfl, _, _, rfl, rfl, ?_⟩
      dsimp only [List.set]
      have ea : at0 hs (j : Int) = h0 := by unfold at0; rw [Int.toNat_natCast, List.getD_eq_getElem?_getD, eh]; rfl
      have s2 := sm.trans (Same.new (o := HO.tup [.int j, .int h0]) hp)
      refine ⟨_, rfl, _, rfl, rfl, _, rfl, ?_⟩
      by_cases he : h0 = h
      · rw [decide_eq_true (show V.int h0 = V.int h by rw [he])]
        refine iteT ⟨_, rfl, hN _ _ _ ⟨_, _, rfl⟩ ⟨s2, ?_⟩ (by simp)⟩
        rw [show ((j + 1 : Nat) : Int) = (j : Int) + 1 by lia, ups_snoc (by lia), List.filter_append, List.map_append]
        simp [ea, he]
      · rw [decide_eq_false (show ¬ V.int h0 = V.int h from fun z => he (by injection z))]
        refine iteF (hN _ _ _ ⟨_, _, rfl⟩ ⟨s2, ?_⟩ (by simp))
        rw [show ((j + 1 : Nat) : Int) = (j : Int) + 1 by lia, ups_snoc (by lia), List.filter_append]
        simp [ea, he]
    · rintro ys H2 ⟨sm, rfl⟩ p hp
      refine q p _ (sm.trans (Same.new hp)) (sm.free hp) ?_
      rw [upd_same, List.length_map, hlen]
      rfl
theorem scClus : FnScope ["web", "pick", "heads"] ["web", "pick"] (defScope sClus) := ⟨rfl, rfl, rfl, by decide +kernel, rfl, by decide +kernel, by decide +kernel⟩
theorem nd2c : (["head", "heads"] : List Str).Nodup := by decide +kernel
theorem hpts_len {n : Int} {hs : List Int} : (hpts n hs).length <= n.toNat := by
  have := List.length_filter_le (fun i => decide (at0 hs i = i)) (ups n)
  rw [ups_len] at this
  exact this
theorem d_clus (T : Txt K mg) (hset : mg "set" = none) (hsor : mg "sorted" = none) (S : Src K mg "clusters_of" sClus ["web", "pick"]) (DH : Def P w K mg base 1 "heads_of" ["web", "pick"] (spHeads K)) (DU : Def P w K mg base 1 "points_under" ["heads", "head"] (spUnder K)) :
    Def P w K mg base 2 "clusters_of" ["web", "pick"] (spClus K) := by
  refine S.def scClus (fun vs H Q E h => ?_) (fun f cdv A outer s H vs Q E hr h => ?_)
  · obtain ⟨_, _, _, _, _, rfl, _⟩ := h; rfl
  · obtain ⟨wv, pk, n, ps, ks, rfl, W, n1, n9, hb, hk, hks, q⟩ := h
    have hr1 : Room 1 _ := hr.mono (by decide)
    refine ⟨_, pss_cons (ps_set (i := 2) scClus.nd rfl (Or.inr rfl) (pe_def DH hr1 rfl (pa_cons (pv 0) (pa_cons (pv 1) pa_nil))))
      (pss_one (ps_ret (pe_comp (N' := ["head", "heads"]) (fr := [none, some 2]) (compOk_of (by rfl)) rfl (pi_seqK K .l (pe_callB (call_sortedSG rfl) (by rfl) hsor boot_sorted' (pa_cons (pe_callTy (call_setTG rfl) rfl hset boot_set' (pa_cons (pv 2) pa_nil)) pa_nil)))
        (fun _ _ _ _ => pg_name (i := 0) nd2c rfl (Or.inl rfl) (Or.inr rfl)) (fun _ _ _ _ => pifs_nil) (fun _ _ _ _ => pe_def DU hr1 rfl (pa_cons (pv 1) (pa_cons (pv 0) pa_nil)))))), ?_⟩
    have G := gh_run n1 hb hks
    refine ⟨_, rfl, _, rfl, wv, pk, n, ps, ks, rfl, W, n1, n9, hb, hk, hks, fun l H1 s1 hl => ?_⟩
    generalize hdF ps (ups n) ks = hs at hl G q
    have hlen := G.len
    have hm := met_heads G n.toNat (by lia)
    rw [show ((n.toNat : Nat) : Int) = n by lia] at hm
    change _ = hpts n hs at hm
    refine ⟨_, rfl, l, hs, rfl, SqL.of hl, by lia, fun m hm' => ?_, fun a ha => ?_⟩
    · obtain ⟨i, hi, rfl⟩ := List.getElem_of_mem hm'
      have := G.le i (by lia) (by lia)
      have e : at0 hs i = hs[i] := by unfold at0; rw [Int.toNat_natCast]; simp [List.getD, hi]
      lia
    have hn : hs.length = n.toNat := by lia
    rw [hn, hm]
    have s2 := Same.new (o := setOG w a (hpts n hs)) ha
    refine ⟨a, hpts n hs, rfl, upd_same, by have := hpts_len (n := n) (hs := hs); lia, tab_goes _ (by have := hpts_len (n := n) (hs := hs); lia), fun b ms pm up hb' => ?_⟩
    have em : ms = hpts n hs := perm_up pm up (hpts_up n hs)
    rw [em]
    dsimp only [cxOf, Cx.nox] at hb' ⊢
    have s3 := Same.new (o := HO.lst ((hpts n hs).map V.int)) hb'
    have h3 : (upd (upd H1 a (setOG w a (hpts n hs))) b (.lst ((hpts n hs).map V.int))) b = some (.lst ((hpts n hs).map V.int)) := upd_same
    have s13 := s1.trans (s2.trans s3)
    have hl3 := s3 _ _ (s2 _ _ hl)
    generalize upd (upd H1 a (setOG w a (hpts n hs))) b (.lst ((hpts n hs).map V.int)) = H3 at h3 s13 hl3 ⊢
    refine ⟨b, rfl, ⟨_, SqL.of h3⟩, comp_seq (k := .l) (a := b) (xs := (hpts n hs).map V.int) (fun σ => ∃ u, σ = [u, some (.ref l)]) (fun i ys H2 => Same H3 H2 /\ Paired (PartAt H H2) ys (((hpts n hs).take i).map (under n hs))) ⟨_, rfl⟩ ⟨Same.refl _, .nil⟩ (by rw [List.length_map]; exact ten_line (by have := hpts_len (n := n) (hs := hs); lia)) (fun j ys H2 _ z => z.1.seq (SqL.of h3)) ?_ ?_⟩
    · rintro j x ys σ H2 N hx ⟨u, rfl⟩ ⟨sm, pp⟩ hN
      obtain ⟨h0, eh, rfl⟩ : ∃ h0, (hpts n hs)[j]? = some h0 /\ V.int h0 = x := by
        rw [List.getElem?_map] at hx
        cases e : (hpts n hs)[j]? with
        | none => rw [e] at hx; simp at hx
        | some k => rw [e] at hx; simp at hx; exact ⟨k, rfl, hx⟩
      dsimp only [gName, List.set]
      refine yesT ?_
      refine ⟨_, rfl, _, rfl, l, n, hs, h0, rfl, SqL.of (sm _ _ hl3), hlen, n9, fun p H4 s4 fp hp => ?_⟩
      refine hN _ _ _ ⟨_, rfl⟩ ⟨sm.trans s4, ?_⟩ (by simp)
      rw [take_succ_of eh, List.map_append]
      exact L2.Paired.snoc (parts_same pp s4) ⟨p, rfl, (s13.trans sm).free fp, hp⟩
    · rintro ys H2 ⟨sm, pp⟩ p hp
      rw [List.length_map, List.take_length] at pp
      exact q p ys _ ((s13.trans sm).trans (Same.new hp)) ((s13.trans sm).free hp) upd_same (parts_same pp (Same.new hp))
end
theorem nd_sub84 {α : Type} [DecidableEq α] : ∀ {l m : List α}, l.Nodup -> (∀ x ∈ l, x ∈ m) -> l.length <= m.length
  | [], _, _, _ => Nat.zero_le _
  | a :: l, m, nd, h => by
    obtain ⟨n1, n2⟩ := List.nodup_cons.mp nd
    have ha := h a List.mem_cons_self
    have := nd_sub84 (l := l) (m := m.erase a) n2 fun x hx => (List.mem_erase_of_ne (fun e => n1 (by rw [<- e]; exact hx))).mpr (h x (List.mem_cons_of_mem _ hx))
    have e := List.length_erase_of_mem ha
    have : 0 < m.length := List.length_pos_of_mem ha
    rw [List.length_cons]
    lia
structure PermOn (f : Nat -> Nat) (N : Nat) : Prop where
  lt : ∀ x, x < N -> f x < N
  inj : ∀ x y, x < N -> y < N -> f x = f y -> x = y
def itr (f : Nat -> Nat) (x : Nat) : Nat -> Nat
  | 0 => x
  | k + 1 => f (itr f x k)
theorem itr_add (f : Nat -> Nat) (x a : Nat) : ∀ b, itr f x (a + b) = itr f (itr f x a) b
  | 0 => rfl
  | b + 1 => by show f (itr f x (a + b)) = f (itr f (itr f x a) b); rw [itr_add f x a b]
theorem PermOn.itr_lt {f : Nat -> Nat} {N x : Nat} (P : PermOn f N) (hx : x < N) : ∀ k, itr f x k < N
  | 0 => hx
  | k + 1 => P.lt _ (P.itr_lt hx k)
theorem PermOn.itr_inj {f : Nat -> Nat} {N : Nat} (P : PermOn f N) : ∀ (k x y : Nat), x < N -> y < N -> itr f x k = itr f y k -> x = y
  | 0, x, y, _, _, h => h
  | k + 1, x, y, hx, hy, h => P.itr_inj k x y hx hy (P.inj _ _ (P.itr_lt hx k) (P.itr_lt hy k) h)
theorem twice : ∀ (N : Nat) (g : Nat -> Nat), (∀ i, i <= N -> g i < N) -> ∃ i j, i < j /\ j <= N /\ g i = g j := fun N g h => by
  refine Classical.byContradiction fun hn => ?_
  have inj : ∀ i j, i <= N -> j <= N -> g i = g j -> i = j := fun i j hi hj e => by
    by_cases c : i = j
    · exact c
    · exfalso
      by_cases c2 : i < j
      · exact hn ⟨i, j, c2, hj, e⟩
      · exact hn ⟨j, i, by lia, hi, e.symm⟩
  have nd : ((List.range (N + 1)).map g).Nodup := by
    rw [List.nodup_iff_pairwise_ne, List.pairwise_map]
    refine List.pairwise_lt_range.imp_of_mem fun ha hb hab e => ?_
    have h1 := List.mem_range.mp ha
    have h2 := List.mem_range.mp hb
    have := inj _ _ (by lia) (by lia) e
    lia
  have len := nd_sub84 nd (m := List.range N) fun x hx => by
    obtain ⟨i, hi, rfl⟩ := List.mem_map.mp hx
    exact List.mem_range.mpr (h i (by have := List.mem_range.mp hi; lia))
  rw [List.length_map, List.length_range, List.length_range] at len
  lia
theorem PermOn.back {f : Nat -> Nat} {N x : Nat} (P : PermOn f N) (hx : x < N) : ∃ k, 1 <= k /\ k <= N /\ itr f x k = x := by
  obtain ⟨i, j, hij, hj, e⟩ := twice N (itr f x) fun i _ => P.itr_lt hx i
  refine ⟨j - i, by lia, by lia, ?_⟩
  have : itr f (itr f x (j - i)) i = itr f x i := by rw [<- itr_add, show j - i + i = j by lia, e]
  exact P.itr_inj i _ _ (P.itr_lt hx _) hx this
structure Per (f : Nat -> Nat) (x k : Nat) : Prop where
  pos : 1 <= k
  back : itr f x k = x
  no : ∀ i, 1 <= i -> i < k -> itr f x i ≠ x
theorem PermOn.per {f : Nat -> Nat} {N x : Nat} (P : PermOn f N) (hx : x < N) : ∃ k, k <= N /\ Per f x k := by
  obtain ⟨k, k1, kN, e⟩ := P.back hx
  obtain ⟨m, hm, ⟨m1, me⟩, mn⟩ := least (fun k => 1 <= k /\ itr f x k = x) k ⟨k1, e⟩
  exact ⟨m, by lia, m1, me, fun i h1 h2 z => mn i h2 ⟨h1, z⟩⟩
theorem Per.uniq {f : Nat -> Nat} {x a b : Nat} (h1 : Per f x a) (h2 : Per f x b) : a = b := by
  by_cases c : a < b
  · exact absurd h1.back (h2.no a h1.pos c)
  · by_cases c2 : b < a
    · exact absurd h2.back (h1.no b h2.pos c2)
    · lia
noncomputable def per (f : Nat -> Nat) (x : Nat) : Nat := open Classical in if h : ∃ k, Per f x k then Classical.choose h else 0
theorem per_is {f : Nat -> Nat} {x k : Nat} (h : Per f x k) : per f x = k := by
  unfold per
  rw [dif_pos ⟨k, h⟩]
  exact (Classical.choose_spec (⟨k, h⟩ : ∃ k, Per f x k)).uniq h
noncomputable def rnd (f : Nat -> Nat) (x : Nat) : List Nat := (List.range (per f x)).map (itr f x)
inductive Cn (f : Nat -> Nat) (N : Nat) : Nat -> Nat -> Prop
  | refl (x : Nat) : Cn f N x x
  | step {x : Nat} : x < N -> Cn f N x (f x)
  | symm {x y : Nat} : Cn f N x y -> Cn f N y x
  | trans {x y z : Nat} : Cn f N x y -> Cn f N y z -> Cn f N x z
theorem cn_itr {f : Nat -> Nat} {N x : Nat} (P : PermOn f N) (hx : x < N) : ∀ k, Cn f N x (itr f x k)
  | 0 => .refl x
  | k + 1 => .trans (cn_itr P hx k) (.step (P.itr_lt hx k))
theorem per_mod {f : Nat -> Nat} {x p : Nat} (h : Per f x p) : ∀ k, itr f x (k * p) = x
  | 0 => by rw [Nat.zero_mul]; rfl
  | k + 1 => by rw [Nat.succ_mul, itr_add, per_mod h k, h.back]
theorem itr_lt_per {f : Nat -> Nat} {x p : Nat} (h : Per f x p) (k : Nat) : itr f x k = itr f x (k % p) := by
  have e : k = (k / p) * p + k % p := by have := Nat.div_add_mod k p; rw [Nat.mul_comm] at this; lia
  have := itr_add f x (k / p * p) (k % p)
  rw [<- e, per_mod h] at this
  exact this
theorem cn_reach {f : Nat -> Nat} {N : Nat} (P : PermOn f N) {x y : Nat} (h : Cn f N x y) : (x < N ↔ y < N) /\ (x < N -> ∃ k, itr f x k = y) := by
  have main : (x < N ↔ y < N) /\ (x < N -> ∃ k, itr f x k = y) /\ (y < N -> ∃ k, itr f y k = x) := by
    induction h with
    | refl x => exact ⟨Iff.rfl, fun _ => ⟨0, rfl⟩, fun _ => ⟨0, rfl⟩⟩
    | @step x hx =>
      refine ⟨⟨fun _ => P.lt x hx, fun _ => hx⟩, fun _ => ⟨1, rfl⟩, fun _ => ?_⟩
      obtain ⟨k, k1, _, e⟩ := P.back hx
      refine ⟨k - 1, ?_⟩
      have := itr_add f x 1 (k - 1)
      rw [show 1 + (k - 1) = k by lia, e] at this
      exact this.symm
    | symm _ ih => exact ⟨ih.1.symm, ih.2.2, ih.2.1⟩
    | trans _ _ ih1 ih2 =>
      refine ⟨ih1.1.trans ih2.1, fun hx => ?_, fun hz => ?_⟩
      · obtain ⟨a, ea⟩ := ih1.2.1 hx
        obtain ⟨b, eb⟩ := ih2.2.1 (ih1.1.mp hx)
        exact ⟨a + b, by rw [itr_add, ea, eb]⟩
      · obtain ⟨a, ea⟩ := ih2.2.2 hz
        obtain ⟨b, eb⟩ := ih1.2.2 (ih2.1.mpr hz)
        exact ⟨a + b, by rw [itr_add, ea, eb]⟩
  exact ⟨main.1, main.2.1⟩
theorem mem_rnd {f : Nat -> Nat} {N x y : Nat} (P : PermOn f N) (hx : x < N) : y ∈ rnd f x ↔ Cn f N x y := by
  obtain ⟨p, _, hp⟩ := P.per hx
  unfold rnd
  rw [per_is hp, List.mem_map]
  constructor
  · rintro ⟨i, _, rfl⟩
    exact cn_itr P hx i
  · intro h
    obtain ⟨k, rfl⟩ := (cn_reach P h).2 hx
    exact ⟨k % p, List.mem_range.mpr (Nat.mod_lt _ hp.pos), (itr_lt_per hp k).symm⟩
theorem Cn.le {f : Nat -> Nat} {N : Nat} {T : Nat -> Nat -> Prop} (r : ∀ x, T x x) (s : ∀ x y, T x y -> T y x) (t : ∀ x y z, T x y -> T y z -> T x z) (h : ∀ x, x < N -> T x (f x)) {x y : Nat} (c : Cn f N x y) : T x y := by
  induction c with
  | refl x => exact r x
  | step hx => exact h _ hx
  | symm _ ih => exact s _ _ ih
  | trans _ _ ih1 ih2 => exact t _ _ _ ih1 ih2
theorem Cn.congr {f g : Nat -> Nat} {N : Nat} (h : ∀ x, x < N -> f x = g x) (x y : Nat) : Cn f N x y ↔ Cn g N x y :=
  ⟨Cn.le .refl (fun _ _ => .symm) (fun _ _ _ => .trans) fun x hx => by rw [h x hx]; exact .step hx, Cn.le .refl (fun _ _ => .symm) (fun _ _ _ => .trans) fun x hx => by rw [<- h x hx]; exact .step hx⟩
theorem PermOn.congr {f g : Nat -> Nat} {N : Nat} (P : PermOn f N) (h : ∀ x, x < N -> f x = g x) : PermOn g N :=
  ⟨fun x hx => by rw [<- h x hx]; exact P.lt x hx, fun x y hx hy e => P.inj x y hx hy (by rw [h x hx, h y hy, e])⟩
theorem PermOn.sur {f : Nat -> Nat} {N z : Nat} (P : PermOn f N) (hz : z < N) : ∃ u, u < N /\ f u = z := by
  obtain ⟨k, k1, _, e⟩ := P.back hz
  refine ⟨itr f z (k - 1), P.itr_lt hz _, ?_⟩
  have := itr_add f z (k - 1) 1
  rw [show k - 1 + 1 = k by lia, e] at this
  exact this.symm
structure Equ (R : Nat -> Nat -> Prop) : Prop where
  r : ∀ x, R x x
  s : ∀ {x y}, R x y -> R y x
  t : ∀ {x y z}, R x y -> R y z -> R x z
theorem cn_equ (f : Nat -> Nat) (N : Nat) : Equ (Cn f N) := ⟨.refl, .symm, .trans⟩
noncomputable def isRep (R : Nat -> Nat -> Prop) (x : Nat) : Bool := open Classical in decide (∀ y, y < x -> ¬ R x y)
theorem isRep_iff {R : Nat -> Nat -> Prop} {x : Nat} : isRep R x = true ↔ ∀ y, y < x -> ¬ R x y := by
  classical
  unfold isRep
  rw [decide_eq_true_iff]
noncomputable def reps (N : Nat) (R : Nat -> Nat -> Prop) : List Nat := (List.range N).filter (isRep R)
theorem mem_reps {N : Nat} {R : Nat -> Nat -> Prop} {x : Nat} : x ∈ reps N R ↔ x < N /\ ∀ y, y < x -> ¬ R x y := by
  unfold reps
  rw [List.mem_filter, List.mem_range]
  exact and_congr Iff.rfl isRep_iff
theorem reps_nd (N : Nat) (R : Nat -> Nat -> Prop) : (reps N R).Nodup := List.Pairwise.filter _ List.nodup_range
theorem reps_one {N : Nat} {R : Nat -> Nat -> Prop} (e : Equ R) {x y : Nat} (hx : x ∈ reps N R) (hy : y ∈ reps N R) (h : R x y) : x = y := by
  by_cases c : x < y
  · exact absurd (e.s h) ((mem_reps.mp hy).2 x c)
  · by_cases c2 : y < x
    · exact absurd h ((mem_reps.mp hx).2 y c2)
    · lia
theorem rep_ex {N : Nat} {R : Nat -> Nat -> Prop} (e : Equ R) {x : Nat} (hx : x < N) : ∃ r, r <= x /\ R x r /\ r ∈ reps N R := by
  obtain ⟨r, h1, h2, h3⟩ := least (fun y => R x y) x (e.r x)
  exact ⟨r, h1, h2, mem_reps.mpr ⟨by lia, fun y hy z => h3 y hy (e.t h2 z)⟩⟩
theorem reps_congr {N : Nat} {R R' : Nat -> Nat -> Prop} (h : ∀ x y, x < N -> y < N -> (R x y ↔ R' x y)) : reps N R = reps N R' := by
  unfold reps
  refine List.filter_congr fun x hx => ?_
  have hx' := List.mem_range.mp hx
  rw [Bool.eq_iff_iff, isRep_iff, isRep_iff]
  exact ⟨fun a y hy z => a y hy ((h x y hx' (by lia)).mpr z), fun a y hy z => a y hy ((h x y hx' (by lia)).mp z)⟩
def fn (ts : List Nat) (i : Nat) : Nat := ts.getD i 0
def mate (x : Nat) : Nat := if x % 2 = 0 then x + 1 else x - 1
theorem mate_mate (x : Nat) : mate (mate x) = x := by
  unfold mate
  by_cases h : x % 2 = 0
  · rw [if_pos h, if_neg (by lia)]; lia
  · rw [if_neg h, if_pos (by lia)]; lia
theorem mate_lt {x m : Nat} (h : x < 2 * m) : mate x < 2 * m := by unfold mate; split <;> lia
def phi (ts : List Nat) (x : Nat) : Nat := fn ts (mate x)
theorem PermOn.phi {ts : List Nat} {m : Nat} (P : PermOn (fn ts) (2 * m)) : PermOn (phi ts) (2 * m) :=
  ⟨fun x hx => P.lt _ (mate_lt hx), fun x y hx hy e => by
    have := P.inj _ _ (mate_lt hx) (mate_lt hy) e
    rw [<- mate_mate x, this, mate_mate]⟩
inductive Jn (ts : List Nat) : Nat -> Nat -> Prop
  | refl (x : Nat) : Jn ts x x
  | turn {x : Nat} : x < ts.length -> Jn ts x (fn ts x)
  | mate (x : Nat) : Jn ts x (mate x)
  | symm {x y : Nat} : Jn ts x y -> Jn ts y x
  | trans {x y z : Nat} : Jn ts x y -> Jn ts y z -> Jn ts x z
noncomputable def nV (ts : List Nat) : Nat := (reps ts.length (Cn (fn ts) ts.length)).length
noncomputable def nF (ts : List Nat) : Nat := (reps ts.length (Cn (phi ts) ts.length)).length
def two (ts : List Nat) : List Nat := ts ++ [ts.length, ts.length + 1]
theorem Same.put84 {H H2 : Hp} {g : Addr} {o : HO} (s : Same H H2) (h : H g = none) : Same H (upd H2 g o) := fun b u e => by rw [upd_ne (ne_of_none e h)]; exact s b u e
def ci (ts : List Nat) : List Int := ts.map fun (n : Nat) => (n : Int)
theorem ci_len (ts : List Nat) : (ci ts).length = ts.length := by unfold ci; rw [List.length_map]
theorem ci_at {ts : List Nat} {i : Nat} (h : i < ts.length) : atI ((ci ts).map V.int) (i : Int) = some (.int (fn ts i : Nat)) := by
  refine atI_nat (j := i) ?_
  unfold ci fn
  simp [h]
theorem at_last {α : Type} (xs : List α) (x : α) : atI (xs ++ [x]) (-1) = some x := by
  unfold atI ixN
  rw [if_neg (by decide), List.length_append, List.length_singleton, if_pos (by lia)]
  show (xs ++ [x])[(-1 + ((xs.length + 1 : Nat) : Int)).toNat]? = some x
  rw [show (-1 + ((xs.length + 1 : Nat) : Int)).toNat = xs.length by lia]
  simp
theorem ci_snoc (l : List Nat) (x : Nat) : (ci (l ++ [x])).map V.int = (ci l).map V.int ++ [.int (x : Nat)] := by unfold ci; rw [List.map_append, List.map_append]; rfl
def wlk (f : Nat -> Nat) (s j : Nat) : List Nat := (List.range (j + 1)).map (itr f s)
theorem wlk_succ (f : Nat -> Nat) (s j : Nat) : wlk f s (j + 1) = wlk f s j ++ [itr f s (j + 1)] := by
  unfold wlk
  rw [List.range_succ, List.map_append]
  rfl
theorem wlk_last (f : Nat -> Nat) (s j : Nat) : ∃ l, wlk f s j = l ++ [itr f s j] := by
  unfold wlk
  rw [List.range_succ, List.map_append]
  exact ⟨_, rfl⟩
theorem wlk_end {f : Nat -> Nat} {s p : Nat} (h : Per f s p) : wlk f s (p - 1) = rnd f s := by
  unfold wlk rnd
  rw [per_is h, show p - 1 + 1 = p by have := h.pos; lia]
def spMate : Sp := fun vs H Q _ => ∃ x : Nat, vs = [.int x] /\ Q (.int (mate x : Nat)) H
def spRound (K : W.Frag) : Sp := fun vs H Q _ => ∃ (dr : Addr) (ts : List Nat) (s : Nat), vs = [.ref dr, .int s] /\ SqT K H dr ((ci ts).map V.int) /\ PermOn (fn ts) ts.length /\ s < ts.length /\ ts.length <= 16 /\ ∀ l H', Same H H' -> H l = none -> H' l = some (.lst ((ci (rnd (fn ts) s)).map V.int)) -> Q (.ref l) H'
def phiL (ts : List Nat) : List Nat := (List.range ts.length).map (phi ts)
theorem phiL_len (ts : List Nat) : (phiL ts).length = ts.length := by unfold phiL; rw [List.length_map, List.length_range]
theorem phiL_fn {ts : List Nat} {x : Nat} (h : x < ts.length) : fn (phiL ts) x = phi ts x := by unfold phiL; show ((List.range ts.length).map (phi ts)).getD x 0 = _; simp [h]
def spOther (K : W.Frag) : Sp := fun vs H Q _ => ∃ (dr : Addr) (ts : List Nat) (m : Nat), vs = [.ref dr] /\ SqT K H dr ((ci ts).map V.int) /\ ts.length = 2 * m /\ m <= 8 /\ ∀ t H', Same H H' -> H' t = some (.tup ((ci (phiL ts)).map V.int)) -> Q (.ref t) H'
section
variable {P : Program} {w : World} {K : W.Frag} {mg : Str -> Option Value} {base : Heap}
theorem scMate : FnScope ["end"] ["end"] (defScope sMate) := ⟨rfl, rfl, rfl, by decide +kernel, rfl, by decide +kernel, by decide +kernel⟩
theorem d_mate (S : Src K mg "mate_of" sMate ["end"]) : Def P w K mg base 1 "mate_of" ["end"] spMate := by
  refine S.def scMate (fun vs H Q E h => ?_) (fun f cdv A outer s H vs Q E hr h => ?_)
  · obtain ⟨_, rfl, _⟩ := h; rfl
  · obtain ⟨x, rfl, q⟩ := h
    refine ⟨_, pss_one (ps_ret (pe_ifExp (pt_cmpR op_eq (pe_op op_mod (pv 0) pe_int) pe_int (nomark _)) (pe_op op_add (pv 0) pe_int) (pe_op op_sub (pv 0) pe_int))), ?_⟩
    refine ⟨_, rfl, _, _, rfl, rfl, (by show (0 : Int) < 2; decide), rfl, _, rfl, ?_⟩
    by_cases c : x % 2 = 0
    · rw [decide_eq_true (show V.int ((x : Int) % 2) = V.int 0 by rw [show (x : Int) % 2 = 0 by lia])]
      refine iteT ⟨_, rfl, _, _, rfl, rfl, ?_⟩
      have : mate x = x + 1 := by unfold mate; rw [if_pos c]
      rw [this] at q
      exact q
    · rw [decide_eq_false (show ¬ V.int ((x : Int) % 2) = V.int 0 from fun z => by injection z with z; lia)]
      refine iteF ⟨_, rfl, _, _, rfl, rfl, ?_⟩
      have : mate x = x - 1 := by unfold mate; rw [if_neg c]
      rw [this, Int.natCast_sub (by lia)] at q
      exact q
theorem scRound : FnScope ["drawing", "start", "ends"] ["drawing", "start"] (defScope sRound) := ⟨rfl, rfl, rfl, by decide +kernel, rfl, by decide +kernel, by decide +kernel⟩
theorem d_round (S : Src K mg "round_from" sRound ["drawing", "start"]) : Def P w K mg base 1 "round_from" ["drawing", "start"] (spRound K) := by
  refine S.def scRound (fun vs H Q E h => ?_) (fun f cdv A outer s H vs Q E hr h => ?_)
  · obtain ⟨_, _, _, rfl, _⟩ := h; rfl
  · obtain ⟨dr, ts, st, rfl, hd, PT, hs, n16, q⟩ := h
    refine ⟨_, pss_cons (ps_set (i := 2) scRound.nd rfl (Or.inl rfl) (pe_lst (pa_cons (pv 1) pa_nil)))
      (pss_cons (ps_while PassesOwn.never (pt_cmpR op_ne (pe_ix (ix_tupK K) (pv 0) (pe_ix (ix_listK K) (pv 2) (pe_un un_neg pe_int) (fun _ _ => rfl)) (fun _ _ => rfl)) (pv 1) (nomark _))
        (pss_one (ps_expr (pe_bm PySem.F.plainAttrs_list PySem.F.slot_list_append PySem.F.type_list_append mt_append (pv 2) (pa_cons (pe_ix (ix_tupK K) (pv 0) (pe_ix (ix_listK K) (pv 2) (pe_un un_neg pe_int) (fun _ _ => rfl)) (fun _ _ => rfl)) pa_nil)))))
      (pss_one (ps_ret (pv 2)))), ?_⟩
    obtain ⟨p, pN, hp⟩ := PT.per hs
    have pp := hp.pos
    refine ⟨_, rfl, by show 1 <= sizeLine; decide, fun l hl => ?_⟩
    have s0 := Same.new (o := HO.lst [.int (st : Int)]) hl
    have h0 : (upd H l (.lst [.int (st : Int)])) l = some (.lst ((ci (wlk (fn ts) st 0)).map V.int)) := upd_same
    generalize upd H l (.lst [.int (st : Int)]) = H0 at s0 h0 ⊢
    dsimp only [List.set]
    refine ⟨fun m σ H' => ∃ j, m + j = p /\ j + 1 <= p /\ σ = [some (.ref dr), some (.int (st : Int)), some (.ref l)] /\ Same H H' /\ H' l = some (.lst ((ci (wlk (fn ts) st j)).map V.int)), ⟨p, 0, rfl, by lia, rfl, s0, h0⟩, ?_⟩
    rintro m σ H' ⟨j, mj, jp, rfl, sm, hl'⟩
    have lt := PT.itr_lt hs j
    obtain ⟨pre, ew⟩ := wlk_last (fn ts) st j
    have eL : (ci (wlk (fn ts) st j)).map V.int = (ci pre).map V.int ++ [.int (itr (fn ts) st j : Nat)] := by rw [ew, ci_snoc]
    have la : atI ((ci (wlk (fn ts) st j)).map V.int) (-1) = some (.int (itr (fn ts) st j : Nat)) := by rw [eL]; exact at_last _ _
    have hd' := sqT sm hd
    refine ⟨_, rfl, _, rfl, _, rfl, l, _, _, _, rfl, rfl, SqL.of hl', la, dr, _, _, _, rfl, rfl, hd', ci_at lt, _, rfl, rfl, _, rfl, ?_⟩
    have e1 : fn ts (itr (fn ts) st j) = itr (fn ts) st (j + 1) := rfl
    rw [e1]
    by_cases c : j + 1 = p
    · rw [decide_eq_true (show V.int ((itr (fn ts) st (j + 1) : Nat) : Int) = V.int (st : Int) by rw [c, hp.back])]
      refine iteF ⟨_, rfl, q l H' sm hl ?_⟩
      rw [hl', show j = p - 1 by lia, wlk_end hp]
    · have ne := hp.no (j + 1) (by lia) (by lia)
      rw [decide_eq_false (show ¬ V.int ((itr (fn ts) st (j + 1) : Nat) : Int) = V.int (st : Int) from fun z => by injection z with z; exact ne (by lia))]
      refine iteT ⟨fun σ' H2 => σ' = [some (.ref dr), some (.int (st : Int)), some (.ref l)] /\ Same H H2 /\ H2 l = some (.lst ((ci (wlk (fn ts) st (j + 1))).map V.int)), ?_, ?_⟩
      · rintro σ' H2 ⟨rfl, s2, h2⟩
        exact ⟨m - 1, by lia, j + 1, by lia, by lia, rfl, s2, h2⟩
      · refine ⟨_, rfl, .inl ⟨rfl, _, SqL.of hl'⟩, _, rfl, _, rfl, _, rfl, l, _, _, _, rfl, rfl, SqL.of hl', la, dr, _, _, _, rfl, rfl, hd', ci_at lt, l, _, _, rfl, rfl, hl', ?_, ?_⟩
        · rw [List.length_map, ci_len]
          unfold wlk
          rw [List.length_map, List.length_range]
          exact Nat.lt_of_le_of_lt (show j + 1 <= 100 by lia) (by decide)
        · refine ⟨rfl, Same.put84 sm hl, ?_⟩
          rw [upd_same, wlk_succ, ci_snoc, e1]
theorem scOther : FnScope ["drawing"] ["drawing"] (defScope sOther) := ⟨rfl, rfl, rfl, by decide +kernel, rfl, by decide +kernel, by decide +kernel⟩
theorem ndED : (["end", "drawing"] : List Str).Nodup := by decide +kernel
theorem d_other (T : Txt K mg) (S : Src K mg "other_one" sOther ["drawing"]) (DM : Def P w K mg base 1 "mate_of" ["end"] spMate) : Def P w K mg base 2 "other_one" ["drawing"] (spOther K) := by
  refine S.def scOther (fun vs H Q E h => ?_) (fun f cdv A outer s H vs Q E hr h => ?_)
  · obtain ⟨_, _, _, rfl, _⟩ := h; rfl
  · obtain ⟨dr, ts, m, rfl, hd, hl, m8, q⟩ := h
    refine ⟨_, pss_one (ps_ret (pe_callTy (call_tuple_ofK K) rfl T.tuple boot_tuple' (pa_cons (pe_comp (N' := ["end", "drawing"]) (fr := [none, some 0]) (compOk_of (by rfl)) rfl (pi_range1 rfl T.range (pa_cons (pe_callB (call_lenK K) (by rfl) T.len PySem.boot_len (pa_cons (pv 0) pa_nil)) pa_nil))
      (fun _ _ _ _ => pg_name (i := 0) ndED rfl (Or.inl rfl) (Or.inr rfl)) (fun _ _ _ _ => pifs_nil) (fun _ _ _ _ => pe_ix (r := rIxT K) (ix_tupK K) (pv 1) (pe_def DM hr rfl (pa_cons (pv 0) pa_nil)) (fun _ _ => rfl))) pa_nil))), ?_⟩
    refine ⟨_, rfl, dr, _, rfl, .inr hd, _, rfl, ?_, ?_, ?_⟩
    · lia
    · rw [List.length_map, ci_len]; lia
    rw [List.length_map, ci_len, Int.toNat_natCast]
    refine comp_range (lo := 0) (n := ts.length) (fun σ => ∃ v, σ = [v, some (.ref dr)]) (fun i ys H' => H' = H /\ ys = (ci ((phiL ts).take i)).map V.int) ⟨_, rfl⟩ ⟨rfl, rfl⟩ (Nat.lt_of_le_of_lt (show ts.length <= 100 by lia) (by decide)) ?_ ?_
    · rintro i ys σ H' N hi ⟨u, rfl⟩ ⟨rfl, rfl⟩ hN
      rw [show (0 : Int) + (i : Int) = (i : Int) by lia]
      dsimp only [gName, List.set]
      have ml := mate_lt (m := m) (x := i) (by lia)
      refine yesT ⟨_, rfl, _, rfl, i, rfl, dr, _, _, _, rfl, rfl, hd, ci_at (by lia), ?_⟩
      refine hN _ _ _ ⟨_, rfl⟩ ⟨rfl, ?_⟩ (by simp)
      have e : (phiL ts)[i]? = some (fn ts (mate i)) := by unfold phiL phi; simp [hi]
      rw [take_succ_of e, ci_snoc]
    · rintro ys H' ⟨rfl, rfl⟩ p hp
      rw [List.take_of_length_le (by rw [phiL_len]; exact Nat.le_refl _)]
      exact ⟨p, _, rfl, .inl ⟨SqL.of upd_same, fun t ht => q t _ ((Same.new hp).trans (Same.new ht)) upd_same⟩⟩
end
def HK (kd : Kd) (H : Hp) (a : Addr) (xs : List V) : Prop := match kd with | .l => H a = some (.lst xs) | .t => FzT H a xs
theorem HK.sq {kd : Kd} {K : W.Frag} {H : Hp} {a : Addr} {xs : List V} (h : HK kd H a xs) : SqK kd K H a xs := by
  cases kd with
  | l => exact SqL.of h
  | t => exact FzT.sq h
theorem HK.same {kd : Kd} {H H' : Hp} {a : Addr} {xs : List V} (h : HK kd H a xs) (s : Same H H') : HK kd H' a xs := by
  cases kd with
  | l => exact s _ _ h
  | t => exact FzT.same h s
def rSortedK (kd : Kd) (K : W.Frag) : List V -> Hp -> VK -> Prop := fun xs H Q => ∃ (p : Addr) (ns : List Int), xs = [.ref p] /\ SqK kd K H p (ns.map V.int) /\ ns.length < 64 /\ ∀ (l : Addr) (ms : List Int), ms.Perm ns -> ms.Pairwise (· <= ·) -> H l = none -> Q (.ref l) (upd H l (.lst (ms.map V.int)))
theorem call_sortedK {X : Cx} (kd : Kd) : CallR X (.builtin "sorted") (rSortedK kd X.K) := by
  cases kd with
  | l => exact call_sortedI
  | t => exact call_sortedTI
def spWholeI : Sp := fun vs H Q _ => ∃ i : Int, vs = [.int i] /\ Q (.bl true) H
theorem kit2 (K : W.Frag) {us : List Value} (h : Vals [V.ty "list", V.ty "tuple"] us) (kd : Kd) : PySem.W.kitAny K (.type (match kd with | .l => "list" | .t => "tuple")) us = some true := by
  obtain ⟨u1, u2, rfl, r1, r2⟩ := Vals.two h
  cases (show u1 = Value.type "list" from r1)
  cases (show u2 = Value.type "tuple" from r2)
  cases kd with
  | l => first | rfl | decide +kernel
  | t => first | rfl | decide +kernel
theorem kp_int (K : W.Frag) : PySem.W.kitOne K (.type "int") (.type "int") = some true := by first | rfl | decide +kernel
theorem kp_intb (K : W.Frag) : PySem.W.kitOne K (.type "int") (.type "bool") = some false := by first | rfl | decide +kernel
def spLesser : Sp := fun vs H Q _ => ∃ a b, vs = [.int a, .int b] /\ ∀ c, H c = none -> Q (.ref c) (upd H c (.tup [.int (norm (a, b)).1, .int (norm (a, b)).2]))
section
variable {P : Program} {w : World} {K : W.Frag} {mg : Str -> Option Value} {base : Heap}
theorem scIsWhole : FnScope ["thing"] ["thing"] (defScope sIsWhole) := ⟨rfl, rfl, rfl, by decide +kernel, rfl, by decide +kernel, by decide +kernel⟩
theorem d_wholeI (T : Txt K mg) (S : Src K mg "is_whole" sIsWhole ["thing"]) : Def P w K mg base 1 "is_whole" ["thing"] spWholeI := by
  refine S.def scIsWhole (fun vs H Q E h => ?_) (fun f cdv A outer s H vs Q E hr h => ?_)
  · obtain ⟨x, rfl, _⟩ := h; rfl
  · obtain ⟨i, rfl, q⟩ := h
    refine ⟨_, pss_one (ps_ret (pe_and (pe_callB (call_isiK K) (by rfl) T.isi boot_isi (pa_cons (pv 0) (pa_cons (pe_bltn (v := .ty "int") rfl T.int boot_int' rfl) pa_nil)))
      (pe_one (pe_not (pe_callB (call_isiK K) (by rfl) T.isi boot_isi (pa_cons (pv 0) (pa_cons (pe_bltn (v := .ty "bool") rfl T.bool boot_bool' rfl) pa_nil))))))), ?_⟩
    exact ⟨_, rfl, _, _, _, _, _, rfl, rfl, .int _, kp_int K, _, rfl, iteT ⟨_, rfl, _, _, _, _, _, rfl, rfl, .int _, kp_intb K, _, rfl, q⟩⟩
def spOnce : Sp := fun vs H Q _ => ∃ (kd : Kd) (a : Addr) (m n : Nat) (ord : List Int), vs = [.ref a, .int m] /\ HK kd H a (ord.map V.int) /\ m <= 16 /\ n <= 16 /\ ord.Perm (ups n) /\ ∀ H', Same H H' -> Q (.bl (decide (n = m))) H'
theorem same_lstO {K : W.Frag} {H : Hp} {a b : Addr} {p : List Int} (h1 : SqL K H a (p.map V.int)) (h2 : SqL K H b (p.map V.int)) {Q : VK} {out : Bool} (q : Q (.bl out) H) : rSame K out (.ref a) (.ref b) H Q := by
  refine ⟨a, b, _, _, 0, rfl, rfl, .inr ⟨h1, h2⟩, rfl, by decide, fun j x y e1 e2 => ?_, q⟩
  rw [e1] at e2
  cases e2
  rw [List.getElem?_map] at e1
  cases e : p[j]? with
  | none => rw [e] at e1; cases e1
  | some k => rw [e] at e1; cases e1; exact .flat rfl
theorem scOnce : FnScope ["thing", "many"] ["thing", "many"] (defScope sEach) := ⟨rfl, rfl, rfl, by decide +kernel, rfl, by decide +kernel, by decide +kernel⟩
theorem ndk : (["number"] : List Str).Nodup := by decide +kernel
theorem d_once (T : Txt K mg) (S : Src K mg "is_each_once" sEach ["thing", "many"]) (DI : Def P w K mg base 1 "is_whole" ["thing"] spWholeI) : Def P w K mg base 2 "is_each_once" ["thing", "many"] spOnce := by
  refine S.def scOnce (fun vs H Q E h => ?_) (fun f cdv A outer s H vs Q E hr h => ?_)
  · obtain ⟨_, _, _, _, _, rfl, _⟩ := h; rfl
  · obtain ⟨kd, a, m, n, ord, rfl, ha, h20, n16, pm, q⟩ := h
    have ol : ord.length = n := by rw [pm.length_eq, ups_len]; lia
    refine ⟨_, pss_cons (ps_if (PW.pt (pw_or (pt_not (pt_val (pe_callB call_isTsF (by rfl) T.isi boot_isi (pa_cons (pv 0) (pa_cons (pe_tup (pa_cons (pe_bltn (v := .ty "list") rfl T.list boot_list' rfl) (pa_cons (pe_bltn (v := .ty "tuple") rfl T.tuple boot_tuple' rfl) pa_nil))) pa_nil)))))
        (pw_or1 (pt_not (pt_val (pe_callB (call_all rfl) (by rfl) T.all boot_all' (pa_cons (pe_comp (N' := ["number"]) (fr := [none]) (compOk_of (by rfl)) rfl (pi_seqK K kd (pv 0))
        (fun _ _ _ _ => pg_name (i := 0) ndk rfl (Or.inl rfl) (Or.inr rfl)) (fun _ _ _ _ => pifs_nil) (fun _ _ _ _ => pe_def DI hr rfl (pa_cons (pv 0) pa_nil))) pa_nil))))))) pss_never pss_nil)
      (pss_one (ps_ret (pe_cmpR (r := rEqLI K) (op_eqLI (units66 hr)) (pe_callB (call_sortedK kd) (by rfl) T.sorted boot_sorted' (pa_cons (pv 0) pa_nil)) (pe_callTy (call_list_rng rfl) rfl T.list boot_list' (pa_cons (pe_callTy call_range1 rfl T.range boot_range' (pa_cons (pv 1) pa_nil)) pa_nil)) (nomark _)))), ?_⟩
    refine ⟨_, rfl, by show 2 <= sizeLine; decide, fun p1 hp1 => ?_⟩
    have s1 := Same.new (o := HO.tup [V.ty "list", V.ty "tuple"]) hp1
    have h1 : (upd H p1 (.tup [V.ty "list", V.ty "tuple"])) p1 = some (.tup [V.ty "list", V.ty "tuple"]) := upd_same
    generalize upd H p1 (.tup [V.ty "list", V.ty "tuple"]) = H1 at s1 h1 ⊢
    have ha1 := ha.same s1
    refine ⟨a, p1, _, ord.map V.int, _, true, rfl, SqT.of h1, ?_, fun us r => kit2 K r kd, _, rfl, iteF ?_⟩
    · cases kd with
      | l => exact .inl ⟨ha1, rfl⟩
      | t => exact .inr ⟨ha1, rfl⟩
    refine ⟨_, rfl, a, rfl, ⟨_, ha1.sq⟩, comp_seq (k := kd) (a := a) (xs := ord.map V.int) (fun σ => ∃ v, σ = [v]) (fun i ys H2 => Same H1 H2 /\ ys = (List.replicate i true).map V.bl) ⟨_, rfl⟩ ⟨Same.refl _, rfl⟩ (by rw [List.length_map]; exact Nat.lt_of_le_of_lt (show ord.length <= 100 by lia) (by decide)) (fun i ys H2 _ z => (ha1.same z.1).sq) ?_ ?_⟩
    · rintro i x ys σ H2 N hx ⟨u, rfl⟩ ⟨s2, rfl⟩ hN
      rw [List.getElem?_map] at hx
      obtain ⟨k, ek, rfl⟩ : ∃ k, ord[i]? = some k /\ V.int k = x := by
        cases e : ord[i]? with
        | none => rw [e] at hx; cases hx
        | some k => rw [e] at hx; exact ⟨k, rfl, Option.some.inj hx⟩
      dsimp only [gName, List.set]
      refine yesT ⟨_, rfl, k, rfl, ?_⟩
      refine hN _ _ _ ⟨_, rfl⟩ ⟨s2, ?_⟩ (by simp)
      rw [List.replicate_succ', List.map_append]
      rfl
    · rintro ys H2 ⟨s2, rfl⟩ p2 hp2
      have s3 := Same.new (o := HO.lst ((List.replicate (ord.map V.int).length true).map V.bl)) hp2
      have h3 : (upd H2 p2 (.lst ((List.replicate (ord.map V.int).length true).map V.bl))) p2 = some (.lst ((List.replicate (ord.map V.int).length true).map V.bl)) := upd_same
      generalize upd H2 p2 (.lst ((List.replicate (ord.map V.int).length true).map V.bl)) = H3 at s3 h3 ⊢
      have ha3 := ha1.same (s2.trans s3)
      have s13 := s1.trans (s2.trans s3)
      refine ⟨p2, _, rfl, SqL.of h3, _, rfl, ?_⟩
      have al : (List.replicate (ord.map V.int).length true).all id = true := by rw [List.all_eq_true]; intro b hb; exact (List.mem_replicate.mp hb).2
      rw [al]
      refine iteF ⟨_, rfl, a, ord, rfl, ha3.sq, by lia, fun l4 ms p4 u4 hl4 => ?_⟩
      have em : ms = ups n := perm_up (p4.trans pm) u4 ((ups_up _).imp fun h => by lia)
      subst em
      have s4 := Same.new (o := HO.lst ((ups n).map V.int)) hl4
      have h4 : (upd H3 l4 (.lst ((ups n).map V.int))) l4 = some (.lst ((ups n).map V.int)) := upd_same
      generalize upd H3 l4 (.lst ((ups n).map V.int)) = H4 at s4 h4 ⊢
      refine ⟨_, rfl, _, rfl, fun p hp => ⟨p, m, rfl, upd_same, by lia, fun l hl => ?_⟩⟩
      have s5 := (Same.new (o := HO.rng 0 m) hp).trans (Same.new (o := HO.lst (upN m)) hl)
      have h5 : (upd (upd H4 p (.rng 0 m)) l (.lst (upN m))) l = some (.lst ((ups m).map V.int)) := by rw [upd_same, upN_ups]
      generalize upd (upd H4 p (.rng 0 m)) l (.lst (upN m)) = H5 at s5 h5 ⊢
      refine ⟨l4, l, ups n, ups m, rfl, rfl, SqL.of (s5 _ _ h4), SqL.of h5, ?_⟩
      have ed : decide (ups (n : Int) = ups (m : Int)) = decide (n = m) := by
        refine decide_eq_decide.mpr ⟨fun z => ?_, fun z => by rw [z]⟩
        have := congrArg List.length z
        rw [ups_len, ups_len] at this
        lia
      rw [ed]
      exact q _ (s13.trans (s4.trans s5))
theorem scLesser : FnScope ["a", "b"] ["a", "b"] (defScope sLesser) := ⟨rfl, rfl, rfl, by decide +kernel, rfl, by decide +kernel, by decide +kernel⟩
theorem d_lesser (S : Src K mg "lesser_first" sLesser ["a", "b"]) : Def P w K mg base 1 "lesser_first" ["a", "b"] spLesser := by
  refine S.def scLesser (fun vs H Q E h => ?_) (fun f cdv A outer s H vs Q E hr h => ?_)
  · obtain ⟨a, b, rfl, _⟩ := h; rfl
  · obtain ⟨a, b, rfl, q⟩ := h
    refine ⟨_, pss_one (ps_ret (pe_ifExp (pt_cmpR op_le (pv 0) (pv 1) (nomark _)) (pe_tup (pa_cons (pv 0) (pa_cons (pv 1) pa_nil))) (pe_tup (pa_cons (pv 1) (pa_cons (pv 0) pa_nil))))), ?_⟩
    refine ⟨_, rfl, _, rfl, _, _, rfl, rfl, _, rfl, ?_⟩
    by_cases hab : a <= b
    · have e : norm (a, b) = (a, b) := by simp [norm, hab]
      rw [e] at q
      rw [decide_eq_true hab]
      exact iteT ⟨_, rfl, _, rfl, by show 2 <= sizeLine; decide, q⟩
    · have e : norm (a, b) = (b, a) := by simp [norm, hab]
      rw [e] at q
      rw [decide_eq_false hab]
      exact iteF ⟨_, rfl, _, rfl, by show 2 <= sizeLine; decide, q⟩
end
noncomputable def rds (f : Nat -> Nat) (N : Nat) : List (List Nat) := if N = 0 then [[]] else (reps N (Cn f N)).map (rnd f)
theorem rds_pos {f : Nat -> Nat} {N : Nat} (h : 0 < N) : rds f N = (reps N (Cn f N)).map (rnd f) := by unfold rds; rw [if_neg (by lia)]
theorem itr_congr {f g : Nat -> Nat} {N s : Nat} (P : PermOn f N) (h : ∀ x, x < N -> f x = g x) (hs : s < N) : ∀ k, itr f s k = itr g s k
  | 0 => rfl
  | k + 1 => by
    show f (itr f s k) = g (itr g s k)
    rw [<- itr_congr P h hs k, h _ (P.itr_lt hs k)]
theorem rnd_congr {f g : Nat -> Nat} {N s : Nat} (P : PermOn f N) (h : ∀ x, x < N -> f x = g x) (hs : s < N) : rnd f s = rnd g s := by
  obtain ⟨p, _, hp⟩ := P.per hs
  have e := itr_congr P h hs
  have hp2 : Per g s p := ⟨hp.pos, by rw [<- e]; exact hp.back, fun i a b => by rw [<- e]; exact hp.no i a b⟩
  unfold rnd
  rw [per_is hp, per_is hp2]
  exact List.map_congr_left fun i _ => e i
theorem rds_congr {f g : Nat -> Nat} {N : Nat} (P : PermOn f N) (h : ∀ x, x < N -> f x = g x) : rds f N = rds g N := by
  unfold rds
  split
  · rfl
  · rw [reps_congr (R' := Cn g N) fun x y _ _ => Cn.congr h x y]
    exact List.map_congr_left fun s hs => rnd_congr P h (mem_reps.mp hs).1
theorem rnd_ne {f : Nat -> Nat} {N s : Nat} (P : PermOn f N) (hs : s < N) : ∃ l, rnd f s = s :: l := by
  obtain ⟨p, _, hp⟩ := P.per hs
  unfold rnd
  rw [per_is hp, show p = p - 1 + 1 by have := hp.pos; lia, List.range_succ_eq_map, List.map_cons]
  exact ⟨_, rfl⟩
theorem rnd_len {f : Nat -> Nat} {N s : Nat} (P : PermOn f N) (hs : s < N) : (rnd f s).length <= N := by
  obtain ⟨p, pN, hp⟩ := P.per hs
  unfold rnd
  rw [per_is hp, List.length_map, List.length_range]
  exact pN
def rowOf (rows : List (List Nat)) (e : Nat) : Nat := rows.findIdx fun r => decide (e ∈ r)
theorem rowOf_at {f : Nat -> Nat} {N : Nat} (P : PermOn f N) {i e : Nat} {r : List Nat} (h : (rds f N)[i]? = some r) (he : e ∈ r) : rowOf (rds f N) e = i := by
  by_cases c : N = 0
  · have : rds f N = [[]] := by unfold rds; rw [if_pos c]
    rw [this] at h
    cases i with
    | zero => cases h; exact nomatch he
    | succ i => cases h
  · rw [rds_pos (by lia)] at h ⊢
    have il := (List.getElem?_eq_some_iff.mp h).1
    unfold rowOf
    have hle : ((reps N (Cn f N)).map (rnd f)).findIdx (fun r => decide (e ∈ r)) <= i := by
      refine Nat.le_of_not_lt fun hlt => ?_
      have nf := List.not_of_lt_findIdx hlt
      have er := (List.getElem?_eq_some_iff.mp h).2
      rw [er] at nf
      exact of_decide_eq_false nf he
    have hp : ((reps N (Cn f N)).map (rnd f)).findIdx (fun r => decide (e ∈ r)) < ((reps N (Cn f N)).map (rnd f)).length := by lia
    have hm := of_decide_eq_true (List.findIdx_getElem (w := hp))
    generalize ((reps N (Cn f N)).map (rnd f)).findIdx (fun r => decide (e ∈ r)) = j at hle hp hm
    rw [List.length_map] at hp il
    have ei : rnd f (reps N (Cn f N))[i] = r := by
      have := (List.getElem?_eq_some_iff.mp h).2
      rw [List.getElem_map] at this
      exact this
    rw [List.getElem_map] at hm
    have m1 : (reps N (Cn f N))[i] ∈ reps N (Cn f N) := List.getElem_mem il
    have m2 : (reps N (Cn f N))[j] ∈ reps N (Cn f N) := List.getElem_mem hp
    rw [<- ei] at he
    have r1 := (mem_rnd P (mem_reps.mp m1).1).mp he
    have r2 := (mem_rnd P (mem_reps.mp m2).1).mp hm
    have eq := reps_one (cn_equ f N) m2 m1 (.trans r2 (.symm r1))
    by_cases cc : j = i
    · exact cc
    · exfalso
      have nd := List.pairwise_iff_getElem.mp (List.nodup_iff_pairwise_ne.mp (reps_nd N (Cn f N))) j i hp il (by lia)
      exact nd eq
theorem row_ex {f : Nat -> Nat} {N : Nat} (P : PermOn f N) {x : Nat} (hx : x < N) : ∃ (i : Nat) (r : List Nat), (rds f N)[i]? = some r /\ x ∈ r := by
  obtain ⟨s, _, h2, h3⟩ := rep_ex (N := N) (cn_equ f N) hx
  obtain ⟨i, hi, e⟩ := List.getElem_of_mem h3
  refine ⟨i, rnd f s, ?_, (mem_rnd P (mem_reps.mp h3).1).mpr (.symm h2)⟩
  rw [rds_pos (by lia), List.getElem?_map, List.getElem?_eq_getElem hi, e]
  rfl
theorem rowOf_lt {f : Nat -> Nat} {N : Nat} (P : PermOn f N) {x : Nat} (hx : x < N) : rowOf (rds f N) x < (rds f N).length := by
  obtain ⟨i, r, h, hr⟩ := row_ex P hx
  rw [rowOf_at P h hr]
  exact (List.getElem?_eq_some_iff.mp h).1
theorem rowOf_cn {f : Nat -> Nat} {N : Nat} (P : PermOn f N) {x y : Nat} (hx : x < N) (c : Cn f N x y) : rowOf (rds f N) x = rowOf (rds f N) y := by
  obtain ⟨i, r, h, hr⟩ := row_ex P hx
  have hy : y ∈ r := by
    rw [rds_pos (by lia), List.getElem?_map] at h
    cases e : (reps N (Cn f N))[i]? with
    | none => rw [e] at h; cases h
    | some s =>
      rw [e] at h
      have e2 : rnd f s = r := Option.some.inj h
      have hs := (mem_reps.mp (List.mem_of_getElem? e)).1
      rw [<- e2] at hr ⊢
      exact (mem_rnd P hs).mpr (.trans ((mem_rnd P hs).mp hr) c)
  rw [rowOf_at P h hr, rowOf_at P h hy]
def tiesOf (rows : List (List Nat)) (m : Nat) : List (Int × Int) := (List.range m).map fun k => norm ((rowOf rows (2 * k) : Int), (rowOf rows (2 * k + 1) : Int))
theorem tiesOf_len (rows : List (List Nat)) (m : Nat) : (tiesOf rows m).length = m := by unfold tiesOf; rw [List.length_map, List.length_range]
theorem norm_in {n a b : Int} (ha : 0 <= a) (ha' : a < n) (hb : 0 <= b) (hb' : b < n) : InN n (norm (a, b)) := by unfold norm InN; split <;> exact ⟨by assumption, by assumption, by assumption, by assumption⟩
theorem ties_in {ts : List Nat} {m : Nat} (hl : ts.length = 2 * m) (P : PermOn (fn ts) (2 * m)) : ∀ p ∈ tiesOf (rds (fn ts) (2 * m)) m, InN ((rds (fn ts) (2 * m)).length : Int) p := fun p hp => by
  obtain ⟨k, hk, rfl⟩ := List.mem_map.mp hp
  have hk' := List.mem_range.mp hk
  have h1 := rowOf_lt P (x := 2 * k) (by lia)
  have h2 := rowOf_lt P (x := 2 * k + 1) (by lia)
  exact norm_in (by lia) (by lia) (by lia) (by lia)
abbrev RowP (H0 H : Hp) : V -> List Nat -> Prop := fun v r => PartAt H0 H v (ci r)
def spRounds (K : W.Frag) : Sp := fun vs H Q _ => ∃ (dr : Addr) (ts : List Nat), vs = [.ref dr] /\ SqT K H dr ((ci ts).map V.int) /\ PermOn (fn ts) ts.length /\ ts.length <= 16 /\ ∀ l xs H', Same H H' -> H l = none -> H' l = some (.lst xs) -> Paired (RowP H H') xs (rds (fn ts) ts.length) -> Q (.ref l) H'
def spLands (K : W.Frag) : Sp := fun vs H Q _ => ∃ (dr : Addr) (ts : List Nat) (m : Nat), vs = [.ref dr] /\ SqT K H dr ((ci ts).map V.int) /\ PermOn (fn ts) (2 * m) /\ ts.length = 2 * m /\ m <= 8 /\ ∀ l xs H', Same H H' -> H l = none -> H' l = some (.lst xs) -> Paired (RowP H H') xs (rds (phi ts) (2 * m)) -> Q (.ref l) H'
theorem none_of {H H' : Hp} {l : Addr} (s : Same H H') (h : H' l = none) : H l = none := by
  cases e : H l with
  | none => rfl
  | some o => have := s l o e; rw [h] at this; cases this
theorem rows_was {H0 H1 H : Hp} {xs : List V} {rows : List (List Nat)} (h : Paired (RowP H1 H) xs rows) (s : Same H0 H1) : Paired (RowP H0 H) xs rows := L2.Paired.mapP h fun _ _ q => by
  obtain ⟨a, h1, h2, h3⟩ := q
  exact ⟨a, h1, none_of s h2, h3⟩
theorem rows_same {H0 H H' : Hp} {xs : List V} {rows : List (List Nat)} (h : Paired (RowP H0 H) xs rows) (e : Same H H') : Paired (RowP H0 H') xs rows := L2.Paired.mapP h fun _ _ q => PartAt.same q e
theorem line84 {n : Nat} (h : n <= 300) : n < sizeLine := Nat.lt_of_le_of_lt h (by decide)
theorem mem_ci {r : List Nat} {x : Int} : x ∈ ci r ↔ ∃ n : Nat, n ∈ r /\ (n : Int) = x := by unfold ci; rw [List.mem_map]
section
variable {P : Program} {w : World} {K : W.Frag} {mg : Str -> Option Value} {base : Heap}
theorem scRounds : FnScope ["drawing", "rounds"] ["drawing"] (defScope sRounds) := ⟨rfl, rfl, rfl, by decide +kernel, rfl, by decide +kernel, by decide +kernel⟩
theorem ndEs : (["ends"] : List Str).Nodup := by decide +kernel
theorem d_rounds (T : Txt K mg) (S : Src K mg "rounds_of" sRounds ["drawing"]) (DR : Def P w K mg base 1 "round_from" ["drawing", "start"] (spRound K)) : Def P w K mg base 2 "rounds_of" ["drawing"] (spRounds K) := by
  refine S.def scRounds (fun vs H Q E h => ?_) (fun f cdv A outer s H vs Q E hr h => ?_)
  · obtain ⟨_, _, rfl, _⟩ := h; rfl
  · obtain ⟨dr, ts, rfl, hd, PT, n16, q⟩ := h
    refine ⟨_, pss_cons (ps_if (pt_not (pt_truth (pv 0) (fun _ => rfl))) (pss_one (ps_ret (pe_lst (pa_cons (pe_lst pa_nil) pa_nil)))) pss_nil)
      (pss_cons (ps_setComp (i := 1) scRounds.nd rfl (Or.inl rfl) (N' := ["end", "drawing"]) (fr := [none, some 0]) (compOk_of (by rfl)) rfl (pi_range1 rfl T.range (pa_cons (pe_callB (call_lenK K) (by rfl) T.len PySem.boot_len (pa_cons (pv 0) pa_nil)) pa_nil))
        (fun _ _ _ _ => pg_name (i := 0) ndED rfl (Or.inl rfl) (Or.inr rfl)) (fun _ _ _ _ => pifs_nil) (fun _ _ _ _ => pe_def DR hr rfl (pa_cons (pv 1) (pa_cons (pv 0) pa_nil))))
      (pss_one (ps_ret (pe_comp (N' := ["ends"]) (fr := [none]) (compOk_of (by rfl)) rfl (pi_seqK K .l (pv 1)) (fun _ _ _ _ => pg_name (i := 0) ndEs rfl (Or.inl rfl) (Or.inr rfl))
        (fun _ _ _ _ => pifs_one (pt_cmpR op_eq (pe_ix (r := rIxL K) (ix_listK K) (pv 0) pe_int (fun _ _ => rfl)) (pe_callB (r := rMin1L K) (call_min1L rfl) (by rfl) T.min boot_min' (pa_cons (pv 0) pa_nil)) (nomark _))) (fun _ _ _ _ => pv 0))))), ?_⟩
    refine ⟨_, rfl, _, .inr (.inl ⟨_, hd, rfl⟩), ?_⟩
    by_cases n0 : ts.length = 0
    · have : ts = [] := List.length_eq_zero_iff.mp n0
      subst this
      refine iteT ⟨Nat.zero_le _, fun e he => ⟨by show 1 <= sizeLine; decide, fun l hl => ?_⟩⟩
      have s1 := Same.new (o := HO.lst []) he
      have s2 := Same.new (o := HO.lst [.ref e]) hl
      exact q l _ _ (s1.trans s2) (none_of s1 hl) upd_same (.cons ⟨e, rfl, he, s2 _ _ upd_same⟩ .nil)
    · have ez : (!((ci ts).map V.int).isEmpty) = true := by
        cases ts with
        | nil => exact absurd rfl n0
        | cons a l => rfl
      rw [ez]
      refine iteF ⟨_, rfl, dr, _, rfl, .inr hd, _, rfl, ?_, ?_, ?_⟩
      · lia
      · rw [List.length_map, ci_len]; lia
      rw [List.length_map, ci_len, Int.toNat_natCast]
      refine comp_range (lo := 0) (n := ts.length) (fun σ => ∃ v, σ = [v, some (.ref dr)]) (fun i ys H' => Same H H' /\ Paired (RowP H H') ys ((List.range i).map (rnd (fn ts)))) ⟨_, rfl⟩ ⟨Same.refl _, .nil⟩ (line84 (by lia)) ?_ ?_
      · rintro i ys σ H' N hi ⟨u, rfl⟩ ⟨sm, hy⟩ hN
        rw [show (0 : Int) + (i : Int) = (i : Int) by lia]
        dsimp only [gName, List.set]
        refine yesT ⟨_, rfl, _, rfl, dr, ts, i, rfl, sqT sm hd, PT, hi, n16, fun l H2 s2 hl hl2 => ?_⟩
        refine hN _ _ _ ⟨_, rfl⟩ ⟨sm.trans s2, ?_⟩ (by simp)
        rw [List.range_succ, List.map_append]
        exact L2.Paired.snoc (rows_same hy s2) ⟨l, rfl, none_of sm hl, hl2⟩
      rintro ys H1 ⟨s1, hy⟩ g hg
      have s2 := Same.new (o := HO.lst ys) hg
      have hy2 := rows_same hy s2
      have hg2 : (upd H1 g (.lst ys)) g = some (.lst ys) := upd_same
      have s12 := s1.trans s2
      generalize upd H1 g (.lst ys) = H2 at s2 hy2 hg2 s12 ⊢
      dsimp only [List.set]
      have yl := Paired.length hy2
      rw [List.length_map, List.length_range] at yl
      refine ⟨_, rfl, g, rfl, ⟨_, SqL.of hg2⟩, comp_seq (k := .l) (a := g) (xs := ys) (fun σ => ∃ v, σ = [v]) (fun i zs H' => H' = H2 /\ Paired (RowP H H2) zs (((List.range i).filter (isRep (Cn (fn ts) ts.length))).map (rnd (fn ts)))) ⟨_, rfl⟩ ⟨rfl, .nil⟩ (line84 (by lia)) (fun i zs H' _ z => SqL.of (by rw [z.1]; exact hg2)) ?_ ?_⟩
      · rintro i x zs σ H' N hx ⟨u, rfl⟩ ⟨rfl, hz⟩ hN
        obtain ⟨r, er, a, rfl, ha0, ha⟩ := Paired.at hy2 hx
        have il : i < ts.length := by have := (List.getElem?_eq_some_iff.mp hx).1; lia
        have e2 : r = rnd (fn ts) i := by
          rw [List.getElem?_map, List.getElem?_range il] at er
          exact (Option.some.inj er).symm
        subst e2
        obtain ⟨l, el⟩ := rnd_ne PT il
        dsimp only [gName, List.set]
        have a0 : atI ((ci (rnd (fn ts) i)).map V.int) 0 = some (.int (i : Int)) := by rw [el]; exact atI_nat (j := 0) rfl
        refine ⟨_, rfl, a, _, _, _, rfl, rfl, SqL.of ha, a0, _, rfl, a, _, rfl, SqL.of ha, by rw [el]; exact List.cons_ne_nil _ _, fun m hm hle => ⟨rfl, _, rfl, ?_⟩⟩
        have key : decide (V.int (i : Int) = V.int m) = isRep (Cn (fn ts) ts.length) i := by
          rw [Bool.eq_iff_iff, decide_eq_true_iff, isRep_iff]
          obtain ⟨k, hk, rfl⟩ := mem_ci.mp hm
          constructor
          · intro z y hy' c
            have e : (i : Int) = (k : Int) := by injection z
            have := hle (y : Int) (mem_ci.mpr ⟨y, (mem_rnd PT il).mpr c, rfl⟩)
            lia
          · intro z
            have h1 := hle (i : Int) (mem_ci.mpr ⟨i, (mem_rnd PT il).mpr (.refl i), rfl⟩)
            have h2 : ¬ k < i := fun lt => z k lt ((mem_rnd PT il).mp hk)
            rw [show (k : Int) = (i : Int) by lia]
        rw [key]
        refine ite2 (fun z => ⟨_, rfl, ?_⟩) (fun z => ?_)
        · refine hN _ _ _ ⟨_, rfl⟩ ⟨rfl, ?_⟩ (by simp)
          rw [List.range_succ, List.filter_append, List.filter_cons_of_pos z, List.map_append]
          exact L2.Paired.snoc hz ⟨a, rfl, ha0, ha⟩
        · refine hN _ _ _ ⟨_, rfl⟩ ⟨rfl, ?_⟩ (by simp)
          rw [List.range_succ, List.filter_append, List.filter_cons_of_neg z, List.filter_nil, List.append_nil]
          exact hz
      · rintro zs H' ⟨rfl, hz⟩ l hl
        rw [yl] at hz
        have s3 := Same.new (o := HO.lst zs) hl
        refine q l zs _ (s12.trans s3) (none_of s12 hl) upd_same ?_
        rw [rds_pos (by lia)]
        exact rows_same hz s3
theorem scLands : FnScope ["drawing"] ["drawing"] (defScope sLands) := ⟨rfl, rfl, rfl, by decide +kernel, rfl, by decide +kernel, by decide +kernel⟩
theorem d_lands (S : Src K mg "lands_of" sLands ["drawing"]) (DR : Def P w K mg base 2 "rounds_of" ["drawing"] (spRounds K)) (DO : Def P w K mg base 2 "other_one" ["drawing"] (spOther K)) : Def P w K mg base 3 "lands_of" ["drawing"] (spLands K) := by
  refine S.def scLands (fun vs H Q E h => ?_) (fun f cdv A outer s H vs Q E hr h => ?_)
  · obtain ⟨_, _, _, rfl, _⟩ := h; rfl
  · obtain ⟨dr, ts, m, rfl, hd, PT, tl, m8, q⟩ := h
    refine ⟨_, pss_one (ps_ret (pe_def DR hr rfl (pa_cons (pe_def DO hr rfl (pa_cons (pv 0) pa_nil)) pa_nil))), ?_⟩
    refine ⟨_, rfl, dr, ts, m, rfl, hd, tl, m8, fun t H1 s1 ht => ?_⟩
    have pl := phiL_len ts
    have cg : ∀ x, x < 2 * m -> phi ts x = fn (phiL ts) x := fun x hx => (phiL_fn (by lia)).symm
    have PF : PermOn (fn (phiL ts)) (2 * m) := PT.phi.congr cg
    refine ⟨t, phiL ts, rfl, SqT.of ht, by rw [pl, tl]; exact PF, by lia, fun l xs H2 s2 hl hl2 hx => ?_⟩
    rw [pl, tl, <- rds_congr PT.phi cg] at hx
    exact q l xs H2 (s1.trans s2) (none_of s1 hl) hl2 (rows_was hx s1)
end
structure Pts (H : Hp) (pd : Addr) (rows : List (List Nat)) (S : Nat -> Prop) (b : Nat) : Prop where
  ex : ∃ kvs : List (Key × V), H pd = some (.dK kvs) /\ (∀ x, S x -> valV kvs (.inl (x : Int)) = some (.int (rowOf rows x : Nat))) /\ kvs.length <= b
theorem Pts.same {H H' : Hp} {pd : Addr} {rows : List (List Nat)} {S : Nat -> Prop} {b : Nat} (h : Pts H pd rows S b) (s : Same H H') : Pts H' pd rows S b := by
  obtain ⟨kvs, h1, h2⟩ := h.ex
  exact ⟨kvs, s _ _ h1, h2⟩
theorem Pts.put {H : Hp} {pd : Addr} {rows : List (List Nat)} {S : Nat -> Prop} {b x i : Nat} (h : Pts H pd rows S b) (e : rowOf rows x = i) (hb : b < 300) : ∃ H2, DPut H pd (.int (x : Int)) (.int (i : Int)) H2 /\ (∃ o, H2 = upd H pd o) /\ Pts H2 pd rows (fun y => S y \/ y = x) (b + 1) := by
  obtain ⟨kvs, h1, h2, h3⟩ := h.ex
  refine ⟨_, DPut.k (k := .inl (x : Int)) h1 (line84 (by lia)), ⟨_, rfl⟩, ⟨_, upd_same, fun y hy => ?_, by have := length_putK kvs (.inl (x : Int) : Key) (.int (i : Int)); lia⟩⟩
  rw [valV_put]
  by_cases c : y = x
  · rw [c, if_pos rfl, e]
  · rw [if_neg (fun z => c (by injection z with z; lia))]
    exact h2 y (hy.resolve_right c)
theorem Pts.get {H : Hp} {pd : Addr} {rows : List (List Nat)} {S : Nat -> Prop} {b x : Nat} (h : Pts H pd rows S b) (hx : S x) : DGet H pd (.int (x : Int)) (some (.int (rowOf rows x : Nat))) := by
  obtain ⟨kvs, h1, h2, h3⟩ := h.ex
  have := DGet.k (k := .inl (x : Int)) h1
  rw [h2 x hx] at this
  exact this
theorem Pts.mono {H : Hp} {pd : Addr} {rows : List (List Nat)} {S S' : Nat -> Prop} {b b' : Nat} (h : Pts H pd rows S b) (hs : ∀ x, S' x -> S x) (hb : b <= b') : Pts H pd rows S' b' := by
  obtain ⟨kvs, h1, h2, h3⟩ := h.ex
  exact ⟨kvs, h1, fun x hx => h2 x (hs x hx), by lia⟩
def Met (rows : List (List Nat)) (i x : Nat) : Prop := ∃ (j : Nat) (r : List Nat), j < i /\ rows[j]? = some r /\ x ∈ r
theorem rds_le (f : Nat -> Nat) (N : Nat) : (rds f N).length <= N + 1 := by
  unfold rds
  split
  · exact Nat.succ_le_succ (Nat.zero_le _)
  · rw [List.length_map]
    have := List.length_filter_le (isRep (Cn f N)) (List.range N)
    rw [List.length_range] at this
    unfold reps
    lia
theorem rds_row {f : Nat -> Nat} {N : Nat} (P : PermOn f N) {r : List Nat} (h : r ∈ rds f N) : r.length <= N := by
  unfold rds at h
  split at h
  · rw [List.mem_singleton.mp h]; exact Nat.zero_le _
  · obtain ⟨s, hs, rfl⟩ := List.mem_map.mp h
    exact rnd_len P (mem_reps.mp hs).1
theorem nat_item {r : List Nat} {j : Nat} {x : V} (hx : ((ci r).map V.int)[j]? = some x) : ∃ e : Nat, r[j]? = some e /\ V.int (e : Int) = x := by
  unfold ci at hx
  rw [List.map_map, List.getElem?_map] at hx
  cases e : r[j]? with
  | none => rw [e] at hx; cases hx
  | some k => rw [e] at hx; exact ⟨k, rfl, Option.some.inj hx⟩
def spWebOf (K : W.Frag) : Sp := fun vs H Q _ => ∃ (dr : Addr) (ts : List Nat) (m : Nat), vs = [.ref dr] /\ SqT K H dr ((ci ts).map V.int) /\ PermOn (fn ts) (2 * m) /\ ts.length = 2 * m /\ m <= 8 /\ ∀ wv H', Same H H' -> WebAt H' wv ((rds (fn ts) (2 * m)).length : Int) (tiesOf (rds (fn ts) (2 * m)) m) -> Q wv H'
def spJoined : Sp := fun vs H Q _ => ∃ (wv : V) (n : Int) (ps : List (Int × Int)), vs = [wv] /\ WebAt H wv n ps /\ 1 <= n /\ n <= 16 /\ (∀ p ∈ ps, InN n p) /\ ps.length <= 8 /\ ∀ H', Same H H' -> Q (.bl (decide ((hpts n (hdF ps (ups n) (ups (ps.length : Int)))).length = 1))) H'
theorem perm_ups {ts : List Nat} {m : Nat} (hl : ts.length = 2 * m) (P : PermOn (fn ts) (2 * m)) : (ci ts).Perm (ups ((2 * m : Nat) : Int)) := by
  have e : ups ((2 * m : Nat) : Int) = ci (List.range (2 * m)) := by unfold ups ci; rw [Int.toNat_natCast]
  rw [e]
  unfold ci
  refine List.Perm.map _ ?_
  have el : ts = (List.range (2 * m)).map (fn ts) := by
    apply List.ext_getElem
    · rw [List.length_map, List.length_range, hl]
    · intro i h1 h2
      simp [fn, h1]
  have nd : ts.Nodup := by
    rw [el, List.nodup_iff_pairwise_ne, List.pairwise_map]
    refine List.pairwise_lt_range.imp_of_mem fun ha hb hab z => ?_
    have := P.inj _ _ (List.mem_range.mp ha) (List.mem_range.mp hb) z
    lia
  refine (List.perm_ext_iff_of_nodup nd List.nodup_range).mpr fun x => ?_
  rw [List.mem_range]
  constructor
  · intro hx
    rw [el] at hx
    obtain ⟨i, hi, rfl⟩ := List.mem_map.mp hx
    exact P.lt i (List.mem_range.mp hi)
  · intro hx
    obtain ⟨u, hu, e⟩ := P.sur hx
    rw [el]
    exact List.mem_map.mpr ⟨u, List.mem_range.mpr hu, e⟩
section
variable {P : Program} {w : World} {K : W.Frag} {mg : Str -> Option Value} {base : Heap}
theorem scWebOf : FnScope ["drawing", "rounds", "point_of", "point", "ends", "end", "many"] ["drawing"] (defScope sWebOf) := ⟨rfl, rfl, rfl, by decide +kernel, rfl, by decide +kernel, by decide +kernel⟩
theorem ndKp : (["k", "point_of"] : List Str).Nodup := by decide +kernel
theorem d_webof (T : Txt K mg) (henum : mg "enumerate" = none) (S : Src K mg "web_of" sWebOf ["drawing"]) (DR : Def P w K mg base 2 "rounds_of" ["drawing"] (spRounds K)) (DL : Def P w K mg base 1 "lesser_first" ["a", "b"] spLesser) : Def P w K mg base 3 "web_of" ["drawing"] (spWebOf K) := by
  refine S.def scWebOf (fun vs H Q E h => ?_) (fun f cdv A outer s H vs Q E hr h => ?_)
  · obtain ⟨_, _, _, rfl, _⟩ := h; rfl
  · obtain ⟨dr, ts, m, rfl, hd, PT, tl, m8, q⟩ := h
    have hr1 : Room 1 _ := hr.mono (by decide)
    refine ⟨_, pss_cons (ps_set (i := 1) scWebOf.nd rfl (Or.inl rfl) (pe_def DR hr rfl (pa_cons (pv 0) pa_nil)))
      (pss_cons (ps_set (i := 2) scWebOf.nd rfl (Or.inr rfl) pe_dnewK)
      (pss_cons (ps_for PassesOwn.never rfl (pi_enumK K .l rfl henum (pa_cons (pv 1) pa_nil)) (pg_tupK K 2 rfl (pgs_cons (pg_name (i := 3) scWebOf.nd rfl (Or.inl rfl)) (pgs_cons (pg_name (i := 4) scWebOf.nd rfl (Or.inl rfl)) pgs_nil)))
        (pss_one (ps_for PassesOwn.never rfl (pi_seqK K .l (pv 4)) (pg_name (i := 5) scWebOf.nd rfl (Or.inl rfl)) (pss_one (ps_dput (hu_of hr) (pv 2) (pv 5) (pv 3) rfl)))))
      (pss_cons (ps_set (i := 6) scWebOf.nd rfl (Or.inl rfl) (pe_op op_fdiv (pe_callB (call_lenK K) (by rfl) T.len PySem.boot_len (pa_cons (pv 0) pa_nil)) pe_int))
      (pss_one (ps_ret (pe_tup (pa_cons (pe_callB (call_lenK K) (by rfl) T.len PySem.boot_len (pa_cons (pv 1) pa_nil)) (pa_cons (pe_callTy (call_tuple_ofK K) rfl T.tuple boot_tuple' (pa_cons (pe_comp (N' := ["k", "point_of"]) (fr := [none, some 2]) (compOk_of (by rfl)) rfl (pi_range1 rfl T.range (pa_cons (pv 6) pa_nil))
        (fun _ _ _ _ => pg_name (i := 0) ndKp rfl (Or.inl rfl) (Or.inr rfl)) (fun _ _ _ _ => pifs_nil) (fun _ _ _ _ => pe_def DL hr1 rfl (pa_cons (pe_dget (hu_of hr) (pv 1) (pe_op op_mul pe_int (pv 0)) (fun _ _ => rfl)) (pa_cons (pe_dget (hu_of hr) (pv 1) (pe_op op_add (pe_op op_mul pe_int (pv 0)) pe_int) (fun _ _ => rfl)) pa_nil)))) pa_nil)) pa_nil)))))))), ?_⟩
    have PT' : PermOn (fn ts) ts.length := by rw [tl]; exact PT
    refine seq_abs fun M hM => ?_
    refine ⟨_, rfl, dr, ts, rfl, hd, PT', by lia, fun l xs H1 s1 hl0 hl hx => hM _ _ ?_⟩
    clear hM M
    rw [tl] at hx
    refine seq_abs fun M hM => ?_
    refine fun pd hpd => hM _ _ ?_
    clear hM M
    have s2 := Same.new (o := HO.dK []) hpd
    have p0 : Pts (upd H1 pd (.dK [])) pd (rds (fn ts) (2 * m)) (Met (rds (fn ts) (2 * m)) 0) 0 := ⟨[], upd_same, fun x hx => by obtain ⟨j, _, h, _⟩ := hx; exact absurd h (Nat.not_lt_zero j), Nat.le_refl _⟩
    generalize upd H1 pd (.dK []) = H2 at s2 p0 ⊢
    have xl := Paired.length hx
    have rl := rds_le (fn ts) (2 * m)
    refine seq_abs fun M hM => ?_
    refine ⟨_, rfl, l, xs, rfl, SqL.of (s2 _ _ hl), for_enum (k := .l) (K := K) (a := l) (xs := xs) (fun i σ H' => (∃ u v z, σ = [some (.ref dr), some (.ref l), some (.ref pd), u, v, z, none]) /\ Same H1 H' /\ Pts H' pd (rds (fn ts) (2 * m)) (Met (rds (fn ts) (2 * m)) i) (16 * i)) ⟨⟨_, _, _, rfl⟩, s2, p0⟩ (fun i σ H' _ z => SqL.of (z.2.1 _ _ hl)) ?_ ?_⟩
    · rintro i x p σ H3 hxi ⟨⟨u, v, z, rfl⟩, s3, p3⟩ hp
      obtain ⟨r, er, a, rfl, ha0, ha⟩ := Paired.at hx hxi
      have il := (List.getElem?_eq_some_iff.mp hxi).1
      have s4 := Same.new (o := HO.tup [.int (i : Int), .ref a]) hp
      refine ⟨p, _, rfl, SqT.of upd_same, rfl, _, _, rfl, _, _, rfl, rfl, ?_⟩
      have s14 := s3.trans s4
      have p4 := p3.same s4
      generalize upd H3 p (.tup [.int (i : Int), .ref a]) = H4 at s14 p4 ⊢
      dsimp only [List.set]
      have rlen := rds_row PT (List.mem_of_getElem? er)
      refine ⟨_, rfl, a, rfl, ⟨_, SqL.of (s14 _ _ ha)⟩, for_seq (k := .l) (K := K) (a := a) (xs := (ci r).map V.int) (fun j σ H' => (∃ z, σ = [some (.ref dr), some (.ref l), some (.ref pd), some (.int (i : Int)), some (.ref a), z, none]) /\ Same H1 H' /\ Pts H' pd (rds (fn ts) (2 * m)) (fun x => Met (rds (fn ts) (2 * m)) i x \/ x ∈ r.take j) (16 * i + j)) ⟨⟨_, rfl⟩, s14, p4.mono (fun x hx => hx.resolve_right (fun z => nomatch z)) (Nat.le_refl _)⟩ (fun j σ H' _ z => SqL.of (z.2.1 _ _ ha)) ?_ ?_⟩
      · rintro j x σ H5 hxj ⟨⟨z, rfl⟩, s5, p5⟩
        obtain ⟨e, ee, rfl⟩ := nat_item hxj
        have jl := (List.getElem?_eq_some_iff.mp ee).1
        dsimp only [gName, List.set]
        obtain ⟨H6, dp, ⟨o, eH⟩, p6⟩ := p5.put (x := e) (i := i) (rowOf_at PT er (List.mem_of_getElem? ee)) (by lia)
        refine ⟨_, rfl, _, rfl, _, rfl, pd, H6, rfl, dp, ⟨_, rfl⟩, by rw [eH]; exact Same.put84 s5 hpd, p6.mono (fun x hx => ?_) (Nat.le_refl _)⟩
        rcases hx with hx | hx
        · exact .inl (.inl hx)
        · rw [take_succ_of ee] at hx
          rcases List.mem_append.mp hx with hx | hx
          · exact .inl (.inr hx)
          · exact .inr (List.mem_singleton.mp hx)
      · rintro σ H5 ⟨⟨z, rfl⟩, s5, p5⟩
        refine ⟨⟨_, _, _, rfl⟩, s5, p5.mono (fun x hx => ?_) (by rw [List.length_map, ci_len]; lia)⟩
        obtain ⟨j, r', hj, e1, e2⟩ := hx
        by_cases c : j = i
        · rw [c, er] at e1
          cases e1
          refine .inr ?_
          rw [List.length_map, ci_len, List.take_length]
          exact e2
        · exact .inl ⟨j, r', by lia, e1, e2⟩
    rintro σ H3 ⟨⟨u, v, z, rfl⟩, s3, p3⟩
    refine hM _ _ ?_
    clear hM M
    have p3' : Pts H3 pd (rds (fn ts) (2 * m)) (fun x => x < 2 * m) 300 := p3.mono (fun x hx => by
      obtain ⟨i, r, h1, h2⟩ := row_ex PT hx
      exact ⟨i, r, by have := (List.getElem?_eq_some_iff.mp h1).1; lia, h1, h2⟩) (by lia)
    have s13 := s1.trans s3
    refine seq_abs fun M hM => ?_
    refine ⟨_, rfl, dr, _, rfl, .inr (sqT s13 hd), _, _, rfl, rfl, ⟨by decide, by decide⟩, hM _ _ ?_⟩
    clear hM M
    rw [List.length_map, ci_len, tl]
    dsimp only [List.set]
    rw [show ((2 * m : Nat) : Int) / 2 = (m : Int) by lia]
    refine ⟨_, rfl, l, xs, rfl, .inl (SqL.of (s3 _ _ hl)), _, rfl, (m : Int), rfl, by lia, by lia, ?_⟩
    rw [Int.toNat_natCast]
    refine comp_range (lo := 0) (n := m) (fun σ => ∃ v, σ = [v, some (.ref pd)]) (fun i ys H' => Same H3 H' /\ Paired (TieAt H') ys ((tiesOf (rds (fn ts) (2 * m)) m).take i)) ⟨_, rfl⟩ ⟨Same.refl _, .nil⟩ (ten_line (by lia)) ?_ ?_
    · rintro i ys σ H4 N hi ⟨u, rfl⟩ ⟨s4, hy⟩ hN
      rw [show (0 : Int) + (i : Int) = (i : Int) by lia]
      dsimp only [gName, List.set]
      have p4 := p3'.same s4
      have g1 := p4.get (x := 2 * i) (by lia)
      have g2 := p4.get (x := 2 * i + 1) (by lia)
      rw [show ((2 * i : Nat) : Int) = 2 * (i : Int) by lia] at g1
      rw [show ((2 * i + 1 : Nat) : Int) = 2 * (i : Int) + 1 by lia] at g2
      refine yesT ⟨_, rfl, _, rfl, _, _, rfl, rfl, .inl ⟨by decide, by decide⟩, pd, _, rfl, g1, _, rfl, _, rfl, _, _, rfl, rfl, .inl ⟨by decide, by decide⟩, _, _, rfl, rfl, pd, _, rfl, g2, _, _, rfl, fun c hc => ?_⟩
      have s5 := Same.new (o := HO.tup [.int (norm ((rowOf (rds (fn ts) (2 * m)) (2 * i) : Int), (rowOf (rds (fn ts) (2 * m)) (2 * i + 1) : Int))).1, .int (norm ((rowOf (rds (fn ts) (2 * m)) (2 * i) : Int), (rowOf (rds (fn ts) (2 * m)) (2 * i + 1) : Int))).2]) hc
      refine hN _ _ _ ⟨_, rfl⟩ ⟨s4.trans s5, ?_⟩ (by simp)
      have e : (tiesOf (rds (fn ts) (2 * m)) m)[i]? = some (norm ((rowOf (rds (fn ts) (2 * m)) (2 * i) : Int), (rowOf (rds (fn ts) (2 * m)) (2 * i + 1) : Int))) := by unfold tiesOf; simp [hi]
      rw [take_succ_of e]
      exact L2.Paired.snoc (ties_same hy s5) ⟨c, rfl, upd_same⟩
    · rintro ys H4 ⟨s4, hy⟩ p hp
      rw [List.take_of_length_le (by rw [tiesOf_len]; exact Nat.le_refl _)] at hy
      refine ⟨p, _, rfl, .inl ⟨SqL.of upd_same, fun t ht => ⟨by show 2 <= sizeLine; decide, fun c hc => ?_⟩⟩⟩
      have s5 := Same.new (o := HO.lst ys) hp
      have s6 := Same.new (o := HO.tup ys) ht
      have s7 := Same.new (o := HO.tup [.int (xs.length : Int), .ref t]) hc
      refine q (.ref c) _ (s13.trans (s4.trans (s5.trans (s6.trans s7)))) ⟨c, t, ys, rfl, ?_, s7 _ _ upd_same, ties_same hy (s5.trans (s6.trans s7))⟩
      rw [upd_same, xl]
theorem scJoined : FnScope ["web"] ["web"] (defScope sJoined) := ⟨rfl, rfl, rfl, by decide +kernel, rfl, by decide +kernel, by decide +kernel⟩
theorem d_joined (T : Txt K mg) (S : Src K mg "is_joined" sJoined ["web"]) (DC : Def P w K mg base 2 "clusters_of" ["web", "pick"] (spClus K)) (DW : Def P w K mg base 1 "whole_pick" ["web"] spWPF) : Def P w K mg base 3 "is_joined" ["web"] spJoined := by
  refine S.def scJoined (fun vs H Q E h => ?_) (fun f cdv A outer s H vs Q E hr h => ?_)
  · obtain ⟨_, _, _, rfl, _⟩ := h; rfl
  · obtain ⟨wv, n, ps, rfl, W, n1, n9, hb, h8, q⟩ := h
    have hr1 : Room 1 _ := hr.mono (by decide)
    refine ⟨_, pss_one (ps_ret (pe_cmpR op_eq (pe_callB (call_lenK K) (by rfl) T.len PySem.boot_len (pa_cons (pe_def DC hr rfl (pa_cons (pv 0) (pa_cons (pe_def DW hr1 rfl (pa_cons (pv 0) pa_nil)) pa_nil))) pa_nil)) pe_int (nomark _))), ?_⟩
    refine ⟨_, rfl, _, rfl, wv, n, ps, rfl, W, h8, fun t H1 s1 ht => ?_⟩
    refine ⟨wv, t, n, ps, ups (ps.length : Int), rfl, W.same s1, n1, n9, hb, FzT.sq ht, fun k hk => mem_ups.mp hk, fun l xs H2 s2 _ hl hx => ?_⟩
    have xl := Paired.length hx
    unfold parts at xl
    rw [List.length_map] at xl
    refine ⟨l, xs, rfl, .inl (SqL.of hl), rfl, ?_⟩
    rw [xl]
    have := q H2 (s1.trans s2)
    generalize (hpts n (hdF ps (ups n) (ups (ps.length : Int)))).length = k at this ⊢
    have e : decide (V.int (k : Int) = V.int 1) = decide (k = 1) := by
      rw [decide_eq_decide]
      exact ⟨fun z => by injection z with z; lia, fun z => by rw [z]; rfl⟩
    rw [e]
    exact this
end
def isWhole : V -> Bool
  | .int _ => true
  | _ => false
def Plain (K : W.Frag) (H : Hp) (x : V) : Prop := ∃ t, TyOf K H x t /\ ∀ C, t ≠ .ref C
theorem plain_int (K : W.Frag) (H : Hp) (i : Int) : Plain K H (.int i) := ⟨_, .int i, fun _ z => nomatch z⟩
theorem kit_whole {K : W.Frag} {H : Hp} {x : V} {t : Value} (h : TyOf K H x t) (hn : ∀ C, t ≠ .ref C) :
    (PySem.W.kitOne K t (.type "int") = some false /\ isWhole x = false) \/ (PySem.W.kitOne K t (.type "int") = some true /\ ∃ b, PySem.W.kitOne K t (.type "bool") = some b /\ isWhole x = !b) := by
  cases h with
  | non => exact .inl ⟨by first | rfl | decide +kernel, rfl⟩
  | bl b => exact .inr ⟨by first | rfl | decide +kernel, true, by rfl, rfl⟩
  | int i => exact .inr ⟨by rfl, false, by first | rfl | decide +kernel, rfl⟩
  | str x => exact .inl ⟨by first | rfl | decide +kernel, rfl⟩
  | flt x => exact .inl ⟨by first | rfl | decide +kernel, rfl⟩
  | lst e => exact .inl ⟨by first | rfl | decide +kernel, rfl⟩
  | frz e => exact .inl ⟨by first | rfl | decide +kernel, rfl⟩
  | tup e => exact .inl ⟨by first | rfl | decide +kernel, rfl⟩
  | dK e => exact .inl ⟨by first | rfl | decide +kernel, rfl⟩
  | dT e => exact .inl ⟨by first | rfl | decide +kernel, rfl⟩
  | ins => exact absurd rfl (hn _)
def spWhole (K : W.Frag) : Sp := fun vs H Q _ => ∃ x, vs = [x] /\ Plain K H x /\ Q (.bl (isWhole x)) H
theorem Plain.same {K : W.Frag} {H H' : Hp} {x : V} (h : Plain K H x) (s : Same H H') : Plain K H' x := by
  obtain ⟨t, ht, hn⟩ := h
  refine ⟨t, ?_, hn⟩
  cases ht with
  | non => exact .non
  | bl b => exact .bl b
  | int i => exact .int i
  | str x => exact .str x
  | flt x => exact .flt x
  | lst e => exact .lst (s _ _ e)
  | frz e => exact .frz (s _ _ e)
  | tup e => exact .tup (s _ _ e)
  | dK e => exact .dK (s _ _ e)
  | dT e => exact .dT (s _ _ e)
  | ins => exact absurd rfl (hn _)
section
variable {P : Program} {w : World} {K : W.Frag} {mg : Str -> Option Value} {base : Heap}
theorem scWholeP : FnScope ["thing"] ["thing"] (defScope sIsWhole) := ⟨rfl, rfl, rfl, by decide +kernel, rfl, by decide +kernel, by decide +kernel⟩
theorem d_wholeP (T : Txt K mg) (S : Src K mg "is_whole" sIsWhole ["thing"]) : Def P w K mg base 1 "is_whole" ["thing"] (spWhole K) := by
  refine S.def scWholeP (fun vs H Q E h => ?_) (fun f cdv A outer s H vs Q E hr h => ?_)
  · obtain ⟨x, rfl, _⟩ := h; rfl
  · obtain ⟨x, rfl, ⟨t, ty, hn⟩, q⟩ := h
    refine ⟨_, pss_one (ps_ret (pe_and (pe_callB (call_isiK K) (by rfl) T.isi boot_isi (pa_cons (pv 0) (pa_cons (pe_bltn (v := .ty "int") rfl T.int boot_int' rfl) pa_nil)))
      (pe_one (pe_not (pe_callB (call_isiK K) (by rfl) T.isi boot_isi (pa_cons (pv 0) (pa_cons (pe_bltn (v := .ty "bool") rfl T.bool boot_bool' rfl) pa_nil))))))), ?_⟩
    rcases kit_whole ty hn with ⟨e1, e2⟩ | ⟨e1, b, e2, e3⟩
    · rw [e2] at q
      exact ⟨_, rfl, _, _, _, _, _, rfl, rfl, ty, e1, _, rfl, iteF q⟩
    · rw [e3] at q
      exact ⟨_, rfl, _, _, _, _, _, rfl, rfl, ty, e1, _, rfl, iteT ⟨_, rfl, _, _, _, _, _, rfl, rfl, ty, e2, _, rfl, q⟩⟩
end
def HKP (kd : Kd) (H : Hp) (a : Addr) (xs : List V) : Prop := match kd with | .l => H a = some (.lst xs) | .t => H a = some (.tup xs)
theorem HKP.sq {kd : Kd} {K : W.Frag} {H : Hp} {a : Addr} {xs : List V} (h : HKP kd H a xs) : SqK kd K H a xs := by
  cases kd with
  | l => exact SqL.of h
  | t => exact SqT.of h
theorem HKP.same {kd : Kd} {H H' : Hp} {a : Addr} {xs : List V} (h : HKP kd H a xs) (s : Same H H') : HKP kd H' a xs := by
  cases kd with
  | l => exact s _ _ h
  | t => exact s _ _ h
inductive BadOrd (K : W.Frag) (H : Hp) (m : Nat) : V -> Prop
  | no {x : V} {t : Value} (h : TyOf K H x t) (nr : ∀ C, t ≠ .ref C) (hl : t ≠ .type "list") (ht : t ≠ .type "tuple") : BadOrd K H m x
  | mix {kd : Kd} {a : Addr} {xs : List V} (h : HKP kd H a xs) (pl : ∀ y ∈ xs, Plain K H y) (bad : ∃ y ∈ xs, isWhole y = false) (hl : xs.length <= 20) : BadOrd K H m (.ref a)
  | nums {kd : Kd} {a : Addr} {ns : List Int} (h : HKP kd H a (ns.map V.int)) (np : ¬ ns.Perm (ups m)) (hl : ns.length <= 20) : BadOrd K H m (.ref a)
theorem ty_same {K : W.Frag} {H H' : Hp} {x : V} {t : Value} (h : TyOf K H x t) (nr : ∀ C, t ≠ .ref C) (s : Same H H') : TyOf K H' x t := by
  cases h with
  | non => exact .non
  | bl b => exact .bl b
  | int i => exact .int i
  | str x => exact .str x
  | flt x => exact .flt x
  | lst e => exact .lst (s _ _ e)
  | frz e => exact .frz (s _ _ e)
  | tup e => exact .tup (s _ _ e)
  | dK e => exact .dK (s _ _ e)
  | dT e => exact .dT (s _ _ e)
  | ins => exact absurd rfl (nr _)
theorem BadOrd.same {K : W.Frag} {H H' : Hp} {m : Nat} {x : V} (h : BadOrd K H m x) (s : Same H H') : BadOrd K H' m x := by
  cases h with
  | no h nr hl ht => exact .no (ty_same h nr s) nr hl ht
  | mix h pl bad hl => exact .mix (h.same s) (fun y hy => (pl y hy).same s) bad hl
  | nums h np hl => exact .nums (h.same s) np hl
theorem kit_seq {K : W.Frag} {H : Hp} {x : V} {t : Value} (h : TyOf K H x t) (nr : ∀ C, t ≠ .ref C) (hl : t ≠ .type "list") (ht : t ≠ .type "tuple") {us : List Value} (r : Vals [V.ty "list", V.ty "tuple"] us) : PySem.W.kitAny K t us = some false := by
  obtain ⟨u1, u2, rfl, r1, r2⟩ := Vals.two r
  cases (show u1 = Value.type "list" from r1)
  cases (show u2 = Value.type "tuple" from r2)
  cases h with
  | lst => exact absurd rfl hl
  | frz => exact absurd rfl hl
  | tup => exact absurd rfl ht
  | ins => exact absurd rfl (nr _)
  | _ => first | rfl | decide +kernel
theorem kit_seqT {K : W.Frag} {H : Hp} {kd : Kd} {a : Addr} {xs : List V} (h : HKP kd H a xs) : ∃ t, TyOf K H (.ref a) t /\ (∀ C, t ≠ .ref C) /\ ∀ us, Vals [V.ty "list", V.ty "tuple"] us -> PySem.W.kitAny K t us = some true := by
  cases kd with
  | l => exact ⟨_, .lst h, (fun _ z => nomatch z), fun us r => kit2 K r .l⟩
  | t => exact ⟨_, .tup h, (fun _ z => nomatch z), fun us r => kit2 K r .t⟩
def spOnceB (K : W.Frag) : Sp := fun vs H Q _ => ∃ (x : V) (m : Nat), vs = [x, .int m] /\ m <= 16 /\ BadOrd K H m x /\ ∀ H', Same H H' -> Q (.bl false) H'
section
variable {P : Program} {w : World} {K : W.Frag} {mg : Str -> Option Value} {base : Heap}
theorem d_onceB (T : Txt K mg) (S : Src K mg "is_each_once" sEach ["thing", "many"]) (DI : Def P w K mg base 1 "is_whole" ["thing"] (spWhole K)) : Def P w K mg base 2 "is_each_once" ["thing", "many"] (spOnceB K) := by
  refine S.def scOnce (fun vs H Q E h => ?_) (fun f cdv A outer s H vs Q E hr h => ?_)
  · obtain ⟨_, _, rfl, _⟩ := h; rfl
  · obtain ⟨x, m, rfl, h10, hx, q⟩ := h
    obtain ⟨kd, hc⟩ : ∃ kd : Kd, (∃ t, TyOf K H x t /\ (∀ C, t ≠ .ref C) /\ t ≠ .type "list" /\ t ≠ .type "tuple") \/ ∃ (a : Addr) (xs : List V), x = .ref a /\ HKP kd H a xs /\ xs.length <= 20 /\ (∀ y ∈ xs, Plain K H y) /\ ((∃ y ∈ xs, isWhole y = false) \/ ∃ ns : List Int, xs = ns.map V.int /\ ¬ ns.Perm (ups m)) := by
      cases hx with
      | no h nr hl ht => exact ⟨.l, .inl ⟨_, h, nr, hl, ht⟩⟩
      | @mix kd a xs h pl bad hl => exact ⟨kd, .inr ⟨a, xs, rfl, h, hl, pl, .inl bad⟩⟩
      | @nums kd a ns h np hl => exact ⟨kd, .inr ⟨a, _, rfl, h, by rw [List.length_map]; exact hl, fun y hy => (by obtain ⟨i, _, rfl⟩ := List.mem_map.mp hy; exact plain_int K H i), .inr ⟨ns, rfl, np⟩⟩⟩
    refine ⟨_, pss_cons (ps_if (PW.pt (pw_or (pt_not (pt_val (pe_callB (r := rIsAny K) call_isAny (by rfl) T.isi boot_isi (pa_cons (pv 0) (pa_cons (pe_tup (pa_cons (pe_bltn (v := .ty "list") rfl T.list boot_list' rfl) (pa_cons (pe_bltn (v := .ty "tuple") rfl T.tuple boot_tuple' rfl) pa_nil))) pa_nil)))))
        (pw_or1 (pt_not (pt_val (pe_callB (call_all rfl) (by rfl) T.all boot_all' (pa_cons (pe_comp (N' := ["number"]) (fr := [none]) (compOk_of (by rfl)) rfl (pi_seqK K kd (pv 0))
        (fun _ _ _ _ => pg_name (i := 0) ndk rfl (Or.inl rfl) (Or.inr rfl)) (fun _ _ _ _ => pifs_nil) (fun _ _ _ _ => pe_def DI hr rfl (pa_cons (pv 0) pa_nil))) pa_nil))))))) (pss_one (ps_ret pe_bl)) pss_nil)
      (pss_one (ps_ret (pe_cmpR (op_eqLI (units66 hr)) (pe_callB (call_sortedK kd) (by rfl) T.sorted boot_sorted' (pa_cons (pv 0) pa_nil)) (pe_callTy (call_list_rng rfl) rfl T.list boot_list' (pa_cons (pe_callTy call_range1 rfl T.range boot_range' (pa_cons (pv 1) pa_nil)) pa_nil)) (nomark _)))), ?_⟩
    refine ⟨_, rfl, by show 2 <= sizeLine; decide, fun p1 hp1 => ?_⟩
    have s1 := Same.new (o := HO.tup [V.ty "list", V.ty "tuple"]) hp1
    have h1 : (upd H p1 (.tup [V.ty "list", V.ty "tuple"])) p1 = some (.tup [V.ty "list", V.ty "tuple"]) := upd_same
    generalize upd H p1 (.tup [V.ty "list", V.ty "tuple"]) = H1 at s1 h1 ⊢
    rcases hc with ⟨t, ty, nr, hl, ht⟩ | ⟨a, xs, rfl, ha, l20, pl, alt⟩
    · exact ⟨x, t, p1, _, false, rfl, SqT.of h1, ty_same ty nr s1, nr, fun us r => kit_seq ty nr hl ht r, _, rfl, iteT (q _ s1)⟩
    obtain ⟨t, ty, nr, kt⟩ := kit_seqT (K := K) (ha.same s1)
    have ha1 := ha.same s1
    refine ⟨.ref a, t, p1, _, true, rfl, SqT.of h1, ty, nr, kt, _, rfl, iteF ?_⟩
    refine ⟨_, rfl, a, rfl, ⟨_, ha1.sq⟩, comp_seq (k := kd) (a := a) (xs := xs) (fun σ => ∃ v, σ = [v]) (fun i ys H2 => Same H1 H2 /\ ys = ((xs.take i).map isWhole).map V.bl) ⟨_, rfl⟩ ⟨Same.refl _, rfl⟩ (Nat.lt_of_le_of_lt l20 (by decide)) (fun i ys H2 _ z => (ha1.same z.1).sq) ?_ ?_⟩
    · rintro i y ys σ H2 N hy ⟨u, rfl⟩ ⟨s2, rfl⟩ hN
      dsimp only [gName, List.set]
      refine yesT ⟨_, rfl, y, rfl, (pl y (List.mem_of_getElem? hy)).same (s1.trans s2), ?_⟩
      refine hN _ _ _ ⟨_, rfl⟩ ⟨s2, ?_⟩ (by simp)
      rw [take_succ_of hy, List.map_append, List.map_append]
      rfl
    · rintro ys H2 ⟨s2, rfl⟩ p2 hp2
      rw [List.take_length]
      have s3 := Same.new (o := HO.lst ((xs.map isWhole).map V.bl)) hp2
      have h3 : (upd H2 p2 (.lst ((xs.map isWhole).map V.bl))) p2 = some (.lst ((xs.map isWhole).map V.bl)) := upd_same
      generalize upd H2 p2 (.lst ((xs.map isWhole).map V.bl)) = H3 at s3 h3 ⊢
      have ha3 := ha1.same (s2.trans s3)
      have s13 := s1.trans (s2.trans s3)
      refine ⟨p2, _, rfl, SqL.of h3, _, rfl, ?_⟩
      rcases alt with ⟨y, hy, wy⟩ | ⟨ns, rfl, np⟩
      · have al : (xs.map isWhole).all id = false := by
          rw [Bool.eq_false_iff]
          intro z
          have := List.all_eq_true.mp z (isWhole y) (List.mem_map_of_mem hy)
          rw [wy] at this
          cases this
        rw [al]
        exact iteT (q _ s13)
      · have al : ((ns.map V.int).map isWhole).all id = true := by
          rw [List.all_eq_true]
          intro b hb
          obtain ⟨y, hy, rfl⟩ := List.mem_map.mp hb
          obtain ⟨i, _, rfl⟩ := List.mem_map.mp hy
          rfl
        rw [al]
        rw [List.length_map] at l20
        refine iteF ⟨_, rfl, a, ns, rfl, ha3.sq, by lia, fun l4 ms p4 u4 hl4 => ?_⟩
        have s4 := Same.new (o := HO.lst (ms.map V.int)) hl4
        have h4 : (upd H3 l4 (.lst (ms.map V.int))) l4 = some (.lst (ms.map V.int)) := upd_same
        generalize upd H3 l4 (.lst (ms.map V.int)) = H4 at s4 h4 ⊢
        refine ⟨_, rfl, _, rfl, fun p hp => ⟨p, m, rfl, upd_same, by lia, fun l hl => ?_⟩⟩
        have s5 := (Same.new (o := HO.rng 0 m) hp).trans (Same.new (o := HO.lst (upN m)) hl)
        have h5 : (upd (upd H4 p (.rng 0 m)) l (.lst (upN m))) l = some (.lst ((ups m).map V.int)) := by rw [upd_same, upN_ups]
        generalize upd (upd H4 p (.rng 0 m)) l (.lst (upN m)) = H5 at s5 h5 ⊢
        refine ⟨l4, l, ms, ups m, rfl, rfl, SqL.of (s5 _ _ h4), SqL.of h5, ?_⟩
        rw [decide_eq_false (show ¬ ms = ups m from fun z => np (by rw [<- z]; exact p4.symm))]
        exact q _ (s13.trans (s4.trans s5))
end
inductive D0
  | fl (v : V)
  | di
  | tu (xs : List V)
  | ls (xs : List V)
inductive D1
  | ob (d : D0)
  | ll (ds : List D0)
def Hold0 (H : Hp) (x : V) : D0 -> Prop
  | .fl v => x = v /\ flatV v = true
  | .di => ∃ a, x = .ref a /\ H a = some (.dK [])
  | .tu xs => ∃ a, x = .ref a /\ H a = some (.tup xs) /\ ∀ z ∈ xs, flatV z = true
  | .ls xs => ∃ a, x = .ref a /\ H a = some (.lst xs) /\ ∀ z ∈ xs, flatV z = true
def Hold1 (H : Hp) (x : V) : D1 -> Prop
  | .ob d => Hold0 H x d
  | .ll ds => ∃ a ys, x = .ref a /\ H a = some (.lst ys) /\ Paired (Hold0 H) ys ds
theorem Hold0.same {H H' : Hp} {x : V} {d : D0} (h : Hold0 H x d) (s : Same H H') : Hold0 H' x d := by
  cases d with
  | fl v => exact h
  | di => obtain ⟨a, e, h⟩ := h; exact ⟨a, e, s _ _ h⟩
  | tu xs => obtain ⟨a, e, h, f⟩ := h; exact ⟨a, e, s _ _ h, f⟩
  | ls xs => obtain ⟨a, e, h, f⟩ := h; exact ⟨a, e, s _ _ h, f⟩
theorem hold_plain {K : W.Frag} {H : Hp} {x : V} {d : D0} (h : Hold0 H x d) : Plain K H x := by
  cases d with
  | fl v =>
    obtain ⟨rfl, f⟩ := h
    cases x with
    | non => exact ⟨_, .non, (fun _ z => nomatch z)⟩
    | bl b => exact ⟨_, .bl _, (fun _ z => nomatch z)⟩
    | int i => exact plain_int _ _ _
    | str z => exact ⟨_, .str _, (fun _ z => nomatch z)⟩
    | _ => exact absurd (show false = true from f) (by decide)
  | di => obtain ⟨a, rfl, h⟩ := h; exact ⟨_, .dK h, (fun _ z => nomatch z)⟩
  | tu xs => obtain ⟨a, rfl, h, _⟩ := h; exact ⟨_, .tup h, (fun _ z => nomatch z)⟩
  | ls xs => obtain ⟨a, rfl, h, _⟩ := h; exact ⟨_, .lst h, (fun _ z => nomatch z)⟩
def fi (i : Int) : D0 := .fl (.int i)
theorem hold_fi (H : Hp) (i : Int) : Hold0 H (.int i) (fi i) := ⟨rfl, rfl⟩
theorem pair_fi (H : Hp) : ∀ ns : List Int, Paired (Hold0 H) (ns.map V.int) (ns.map fi)
  | [] => .nil
  | i :: ns => .cons (hold_fi H i) (pair_fi H ns)
def IsBad (m : Nat) : D1 -> Prop
  | .ob (.fl _) => True
  | .ob .di => True
  | .ob (.tu xs) => ∃ ns : List Int, xs = ns.map V.int /\ ¬ ns.Perm (ups m) /\ ns.length <= 20
  | .ob (.ls _) => False
  | .ll ds => ds.length <= 20 /\ ((∃ d ∈ ds, ∀ i, d ≠ fi i) \/ ∃ ns : List Int, ds = ns.map fi /\ ¬ ns.Perm (ups m))
theorem pair_ints {H : Hp} : ∀ {ns : List Int} {ys : List V}, Paired (Hold0 H) ys (ns.map fi) -> ys = ns.map V.int
  | [], _, .nil => rfl
  | i :: ns, _, .cons h t => by rw [pair_ints t, show _ = V.int i from h.1]; rfl
theorem bad_of {K : W.Frag} {H : Hp} {m : Nat} {x : V} {d : D1} (h : Hold1 H x d) (b : IsBad m d) : BadOrd K H m x := by
  cases d with
  | ob d =>
    cases d with
    | fl v =>
      obtain ⟨rfl, f⟩ := h
      cases x with
      | non => exact .no .non (fun _ z => nomatch z) (by decide +kernel) (by decide +kernel)
      | bl b => exact .no (.bl _) (fun _ z => nomatch z) (by decide +kernel) (by decide +kernel)
      | int i => exact .no (.int _) (fun _ z => nomatch z) (by decide +kernel) (by decide +kernel)
      | str z => exact .no (.str _) (fun _ z => nomatch z) (by decide +kernel) (by decide +kernel)
      | _ => exact absurd (show false = true from f) (by decide)
    | di => obtain ⟨a, rfl, h⟩ := h; exact .no (.dK h) (fun _ z => nomatch z) (by decide +kernel) (by decide +kernel)
    | tu xs =>
      obtain ⟨a, rfl, h, _⟩ := h
      obtain ⟨ns, rfl, np, nl⟩ := b
      exact .nums (kd := .t) h np nl
    | ls xs => exact b.elim
  | ll ds =>
    obtain ⟨a, ys, rfl, h, p⟩ := h
    obtain ⟨l20, b⟩ := b
    rcases b with ⟨d, hd, nd⟩ | ⟨ns, rfl, np⟩
    · refine .mix (kd := .l) h (fun y hy => ?_) ?_ (by rw [Paired.length p]; exact l20)
      · obtain ⟨i, il, rfl⟩ := List.getElem_of_mem hy
        obtain ⟨e, _, g⟩ := Paired.at p (List.getElem?_eq_getElem il)
        exact hold_plain g
      · obtain ⟨i, il, e⟩ := List.getElem_of_mem hd
        have il' : i < ys.length := by rw [Paired.length p]; exact il
        obtain ⟨e', f, g⟩ := Paired.at p (List.getElem?_eq_getElem il')
        rw [List.getElem?_eq_getElem il, e] at f
        cases f
        refine ⟨ys[i], List.getElem_mem il', ?_⟩
        generalize ys[i] = y at g
        cases d with
        | fl v =>
          obtain ⟨rfl, _⟩ := g
          cases y with
          | int i => exact absurd rfl (nd i)
          | _ => rfl
        | di => obtain ⟨_, rfl, _⟩ := g; rfl
        | tu _ => obtain ⟨_, rfl, _⟩ := g; rfl
        | ls _ => obtain ⟨_, rfl, _⟩ := g; rfl
    · rw [pair_ints p] at h
      exact .nums (kd := .l) h np (by rw [List.length_map] at l20; exact l20)
def JnAll (ts : List Nat) (m : Nat) : Prop := ∀ x, x < 2 * m -> Jn ts x 0
noncomputable def nv (ts : List Nat) (m : Nat) : Nat := (rds (fn ts) (2 * m)).length
noncomputable def nf (ts : List Nat) (m : Nat) : Nat := (rds (phi ts) (2 * m)).length
theorem rds_one (f : Nat -> Nat) (N : Nat) : 1 <= (rds f N).length := by
  by_cases c : N = 0
  · subst c
    exact Nat.le_refl _
  · rw [rds_pos (by lia), List.length_map]
    obtain ⟨r, _, _, h3⟩ := rep_ex (N := N) (cn_equ f N) (show 0 < N by lia)
    exact List.length_pos_of_mem h3
theorem rds_most (f : Nat -> Nat) (N : Nat) (h : N <= 16) : (rds f N).length <= 16 := by
  by_cases c : N = 0
  · subst c
    exact (by decide : 1 <= 16)
  · rw [rds_pos (by lia), List.length_map]
    have := List.length_filter_le (isRep (Cn f N)) (List.range N)
    rw [List.length_range] at this
    unfold reps
    lia
theorem cn_jn {ts : List Nat} {x y : Nat} (h : Cn (fn ts) ts.length x y) : Jn ts x y := h.le (.refl) (fun _ _ z => z.symm) (fun _ _ _ a b => a.trans b) fun _ hx => .turn hx
theorem row_cn {f : Nat -> Nat} {N : Nat} (P : PermOn f N) {x y : Nat} (hx : x < N) (hy : y < N) (e : rowOf (rds f N) x = rowOf (rds f N) y) : Cn f N x y := by
  obtain ⟨i, r, h1, h2⟩ := row_ex P hx
  obtain ⟨j, r', h3, h4⟩ := row_ex P hy
  rw [rowOf_at P h1 h2, rowOf_at P h3 h4] at e
  subst e
  rw [h1] at h3
  cases h3
  rw [rds_pos (by lia), List.getElem?_map] at h1
  cases es : (reps N (Cn f N))[i]? with
  | none => rw [es] at h1; cases h1
  | some s =>
    rw [es] at h1
    have e2 : rnd f s = r := Option.some.inj h1
    have hs := (mem_reps.mp (List.mem_of_getElem? es)).1
    subst e2
    exact ((mem_rnd P hs).mp h2).symm.trans ((mem_rnd P hs).mp h4)
theorem joined_iff {ts : List Nat} {m : Nat} (hl : ts.length = 2 * m) (P : PermOn (fn ts) (2 * m)) : (hpts ((rds (fn ts) (2 * m)).length : Int) (hdF (tiesOf (rds (fn ts) (2 * m)) m) (ups ((rds (fn ts) (2 * m)).length : Int)) (ups (m : Int)))).length = 1 ↔ JnAll ts m := by
  have n1 := rds_one (fn ts) (2 * m)
  have hin := ties_in hl P
  have tl := tiesOf_len (rds (fn ts) (2 * m)) m
  have G := gh_run (n := ((rds (fn ts) (2 * m)).length : Int)) (ps := tiesOf (rds (fn ts) (2 * m)) m) (ks := ups (m : Int)) (by lia) hin (fun k hk => by
    have := mem_ups.mp hk
    rw [tl]
    exact this)
  generalize hdF (tiesOf (rds (fn ts) (2 * m)) m) (ups ((rds (fn ts) (2 * m)).length : Int)) (ups (m : Int)) = hs at G
  have et : ∀ x : Nat, x < 2 * m -> tieN (tiesOf (rds (fn ts) (2 * m)) m) ((x / 2 : Nat) : Int) = norm ((rowOf (rds (fn ts) (2 * m)) (2 * (x / 2)) : Int), (rowOf (rds (fn ts) (2 * m)) (2 * (x / 2) + 1) : Int)) := fun x hx => by
    unfold tieN tiesOf
    rw [Int.toNat_natCast, List.getD_eq_getElem?_getD, List.getElem?_map, List.getElem?_range (by lia)]
    rfl
  have z0 : at0 hs 0 = 0 := by have := G.le 0 (by lia) (by lia); lia
  constructor
  · intro one
    have m0 : (0 : Int) ∈ hpts ((rds (fn ts) (2 * m)).length : Int) hs := mem_hpts.mpr ⟨⟨by lia, by lia⟩, z0⟩
    have only : ∀ i ∈ hpts ((rds (fn ts) (2 * m)).length : Int) hs, i = 0 := fun i hi => by
      generalize hpts ((rds (fn ts) (2 * m)).length : Int) hs = l at one m0 hi
      match l, one with
      | [a], _ =>
        rw [List.mem_singleton] at m0 hi
        rw [hi, m0]
    have all0 : ∀ i : Int, 0 <= i -> i < ((rds (fn ts) (2 * m)).length : Int) -> at0 hs i = 0 := fun i i0 il => by
      have := G.le i i0 il
      exact only _ (mem_hpts.mpr ⟨⟨this.1, by lia⟩, G.idem i i0 il⟩)
    intro x hx
    have m1 : 0 < 2 * m := by lia
    have key := G.cl (fun i => ∀ y, y < 2 * m -> (rowOf (rds (fn ts) (2 * m)) y : Int) = i -> Jn ts y 0) (fun k hk => by
      obtain ⟨k0, km⟩ := mem_ups.mp hk
      obtain ⟨j, rfl⟩ := Int.eq_ofNat_of_zero_le k0
      have ej := et (2 * j) (by lia)
      rw [show 2 * j / 2 = j by lia] at ej
      rw [ej]
      have side : ∀ u v : Nat, u < 2 * m -> v < 2 * m -> Jn ts u v -> (∀ y, y < 2 * m -> (rowOf (rds (fn ts) (2 * m)) y : Int) = (rowOf (rds (fn ts) (2 * m)) u : Int) -> Jn ts y 0) -> ∀ y, y < 2 * m -> (rowOf (rds (fn ts) (2 * m)) y : Int) = (rowOf (rds (fn ts) (2 * m)) v : Int) -> Jn ts y 0 := fun u v hu hv juv h y hy ey => by
        have c := row_cn P hy hv (by lia)
        rw [<- hl] at c
        exact (cn_jn c).trans (juv.symm.trans (h u hu rfl))
      have jm : Jn ts (2 * j) (2 * j + 1) := by
        have := Jn.mate (ts := ts) (2 * j)
        unfold mate at this
        rw [if_pos (by lia)] at this
        exact this
      have a1 := side (2 * j) (2 * j + 1) (by lia) (by lia) jm
      have a2 := side (2 * j + 1) (2 * j) (by lia) (by lia) jm.symm
      rcases norm_cases ((rowOf (rds (fn ts) (2 * m)) (2 * j) : Int), (rowOf (rds (fn ts) (2 * m)) (2 * j + 1) : Int)) with ⟨e1, e2⟩ | ⟨e1, e2⟩
      · rw [e1, e2]; exact ⟨a1, a2⟩
      · rw [e1, e2]; exact ⟨a2, a1⟩)
    have r0 := rowOf_lt P (x := 0) m1
    have rx := rowOf_lt P (x := x) hx
    have f0 : ∀ y, y < 2 * m -> (rowOf (rds (fn ts) (2 * m)) y : Int) = (rowOf (rds (fn ts) (2 * m)) 0 : Int) -> Jn ts y 0 := fun y hy ey => by
      have c := row_cn P hy m1 (by lia)
      rw [<- hl] at c
      exact cn_jn c
    have k0 := (key (rowOf (rds (fn ts) (2 * m)) 0 : Int) (by lia) (by lia)).mp f0
    rw [all0 _ (by lia) (by lia)] at k0
    have kx := key (rowOf (rds (fn ts) (2 * m)) x : Int) (by lia) (by lia)
    rw [all0 _ (by lia) (by lia)] at kx
    exact kx.mpr k0 x hx rfl
  · intro hJ
    have step : ∀ {x y}, Jn ts x y -> (x < 2 * m ↔ y < 2 * m) /\ (x < 2 * m -> at0 hs (rowOf (rds (fn ts) (2 * m)) x) = at0 hs (rowOf (rds (fn ts) (2 * m)) y)) := fun h => by
      induction h with
      | refl x => exact ⟨Iff.rfl, fun _ => rfl⟩
      | @turn x hx =>
        have hx' : x < 2 * m := by lia
        exact ⟨⟨fun _ => P.lt x hx', fun _ => hx'⟩, fun _ => by rw [rowOf_cn P hx' (.step hx')]⟩
      | mate x =>
        refine ⟨⟨fun z => mate_lt z, fun z => by have := mate_lt z; rw [mate_mate] at this; exact this⟩, fun hx => ?_⟩
        have jn := G.join ((x / 2 : Nat) : Int) (mem_ups.mpr ⟨by lia, by lia⟩)
        rw [et x hx] at jn
        have jn2 : at0 hs (rowOf (rds (fn ts) (2 * m)) (2 * (x / 2))) = at0 hs (rowOf (rds (fn ts) (2 * m)) (2 * (x / 2) + 1)) := by
          rcases norm_cases ((rowOf (rds (fn ts) (2 * m)) (2 * (x / 2)) : Int), (rowOf (rds (fn ts) (2 * m)) (2 * (x / 2) + 1) : Int)) with ⟨e1, e2⟩ | ⟨e1, e2⟩
          · rw [e1, e2] at jn; exact jn
          · rw [e1, e2] at jn; exact jn.symm
        unfold mate
        by_cases c : x % 2 = 0
        · rw [if_pos c]
          rw [show 2 * (x / 2) = x by lia] at jn2
          exact jn2
        · rw [if_neg c]
          rw [show 2 * (x / 2) + 1 = x by lia, show 2 * (x / 2) = x - 1 by lia] at jn2
          exact jn2.symm
      | symm _ ih => exact ⟨ih.1.symm, fun hx => (ih.2 (ih.1.mpr hx)).symm⟩
      | trans _ _ ih1 ih2 => exact ⟨ih1.1.trans ih2.1, fun hx => (ih1.2 hx).trans (ih2.2 (ih1.1.mp hx))⟩
    have all0 : ∀ i : Int, 0 <= i -> i < ((rds (fn ts) (2 * m)).length : Int) -> at0 hs i = 0 := fun i i0 il => by
      by_cases c : m = 0
      · have : (rds (fn ts) (2 * m)).length = 1 := by rw [c]; rfl
        rw [show i = 0 by lia]
        exact z0
      · have get : ∀ i : Nat, i < (rds (fn ts) (2 * m)).length -> ∃ s, s < 2 * m /\ rowOf (rds (fn ts) (2 * m)) s = i := fun i hi => by
          have e : (rds (fn ts) (2 * m))[i]? = some (rds (fn ts) (2 * m))[i] := List.getElem?_eq_getElem hi
          generalize (rds (fn ts) (2 * m))[i] = r at e
          have e' := e
          rw [rds_pos (by lia), List.getElem?_map] at e'
          cases es : (reps (2 * m) (Cn (fn ts) (2 * m)))[i]? with
          | none => rw [es] at e'; cases e'
          | some s =>
            rw [es] at e'
            have e2 : rnd (fn ts) s = r := Option.some.inj e'
            have hs' := (mem_reps.mp (List.mem_of_getElem? es)).1
            refine ⟨s, hs', rowOf_at P e ?_⟩
            rw [<- e2]
            exact (mem_rnd P hs').mpr (.refl s)
        obtain ⟨s, hs', e1⟩ := get i.toNat (by lia)
        obtain ⟨s0, hs0, e0⟩ := get 0 (by lia)
        have a1 := (step (hJ s hs')).2 hs'
        have a2 := (step (hJ s0 hs0)).2 hs0
        rw [e1, show ((i.toNat : Nat) : Int) = i by lia] at a1
        rw [e0] at a2
        rw [a1, <- a2]
        exact z0
    have eh : hpts ((rds (fn ts) (2 * m)).length : Int) hs = [0] := by
      refine perm_up (same_perm (((ups_up _).filter _).imp fun h => by lia) (by simp) fun i => ?_) (hpts_up _ _) (by simp)
      rw [mem_hpts, List.mem_singleton]
      constructor
      · rintro ⟨⟨a, b⟩, c⟩
        rw [all0 i a b] at c
        exact c.symm
      · rintro rfl
        exact ⟨⟨by lia, by lia⟩, z0⟩
    rw [eh]
    rfl
theorem itr_in {f : Nat -> Nat} {L : List Nat} (hc : ∀ x ∈ L, f x ∈ L) {x : Nat} (hx : x ∈ L) : ∀ k, itr f x k ∈ L
  | 0 => hx
  | k + 1 => hc _ (itr_in hc hx k)
theorem closed_all {ts : List Nat} {m : Nat} (hl : ts.length = 2 * m) (P : PermOn (fn ts) (2 * m)) {L : List Nat} (nd : L.Nodup) (h0 : 0 ∈ L) (hin : ∀ x ∈ L, x < 2 * m /\ Jn ts x 0) (hc : ∀ x ∈ L, fn ts x ∈ L /\ mate x ∈ L) : L.length = 2 * m ↔ JnAll ts m := by
  constructor
  · intro e x hx
    refine (hin x ?_).2
    refine Classical.byContradiction fun nx => ?_
    have := nd_sub84 (l := x :: L) (m := List.range (2 * m)) (List.nodup_cons.mpr ⟨nx, nd⟩) (fun y hy => List.mem_range.mpr (by
      rcases List.mem_cons.mp hy with rfl | hy
      · exact hx
      · exact (hin y hy).1))
    rw [List.length_cons, List.length_range] at this
    lia
  · intro hJ
    have inv : ∀ x, x < 2 * m -> fn ts x ∈ L -> x ∈ L := fun x hx h => by
      obtain ⟨k, k1, _, e⟩ := P.back hx
      have := itr_in (fun y hy => (hc y hy).1) h (k - 1)
      have e2 : itr (fn ts) (fn ts x) (k - 1) = itr (fn ts) x k := by
        have := itr_add (fn ts) x 1 (k - 1)
        rw [show 1 + (k - 1) = k by lia] at this
        exact this.symm
      rw [e2, e] at this
      exact this
    have cls : ∀ {x y}, Jn ts x y -> (x ∈ L ↔ y ∈ L) := fun h => by
      induction h with
      | refl x => exact Iff.rfl
      | @turn x hx => exact ⟨fun z => (hc x z).1, fun z => inv x (by lia) z⟩
      | mate x => exact ⟨fun z => (hc x z).2, fun z => by have := (hc _ z).2; rw [mate_mate] at this; exact this⟩
      | symm _ ih => exact ih.symm
      | trans _ _ ih1 ih2 => exact ih1.trans ih2
    have h1 := nd_sub84 (l := List.range (2 * m)) (m := L) List.nodup_range (fun y hy => (cls (hJ y (List.mem_range.mp hy))).mpr h0)
    have h2 := nd_sub84 (l := L) (m := List.range (2 * m)) nd (fun y hy => List.mem_range.mpr (hin y hy).1)
    rw [List.length_range] at h1 h2
    lia
theorem perm_nat {ord : List Int} {m : Nat} (pm : ord.Perm (ups ((2 * m : Nat) : Int))) : ∃ ts : List Nat, ord = ci ts /\ ts.length = 2 * m /\ PermOn (fn ts) (2 * m) := by
  have am : ∀ x ∈ ord, 0 <= x /\ x < ((2 * m : Nat) : Int) := fun x hx => mem_ups.mp (pm.mem_iff.mp hx)
  have ol : ord.length = 2 * m := by rw [pm.length_eq, ups_len]; lia
  have nd : ord.Nodup := pm.nodup_iff.mpr ((ups_up _).imp fun h => by lia)
  refine ⟨ord.map Int.toNat, ?_, by rw [List.length_map, ol], ?_⟩
  · unfold ci
    rw [List.map_map]
    refine (List.map_id' ord).symm.trans (List.map_congr_left fun x hx => ?_)
    have := am x hx
    show x = ((x.toNat : Nat) : Int)
    lia
  · have fe : ∀ i, (h : i < ord.length) -> fn (ord.map Int.toNat) i = (ord[i]).toNat := fun i h => by
      unfold fn
      simp [h]
    refine ⟨fun x hx => ?_, fun x y hx hy e => ?_⟩
    · rw [fe x (by lia)]
      have := am _ (List.getElem_mem (show x < ord.length by lia))
      lia
    · rw [fe x (by lia), fe y (by lia)] at e
      have a := am _ (List.getElem_mem (show x < ord.length by lia))
      have b := am _ (List.getElem_mem (show y < ord.length by lia))
      exact (List.getElem_inj nd).mp (show ord[x] = ord[y] by lia)
theorem boot_any84 : bootBuiltins "any" = some (.builtin "any") := by first | rfl | decide +kernel
structure NT (K : W.Frag) (mg : Str -> Option Value) (C Wc : Addr) (bm : List Value) : Prop where
  gC : mg "NotPlane" = some (.ref C)
  gW : mg "WebError" = some (.ref Wc)
  ib : excIB K C bm = true
  init : ∃ f fd oI, PySem.W.findIn K (.ref C) "__init__" = some (some (.ref f)) /\ K.lookup f = some oI /\ oI.cls = .type "function" /\ Fun K "__init__" "NotPlane.__init__" sNInit f fd /\ Binds K fd ["self", "lands"] []
  s1 : PySem.W.specialIn K (.ref Wc) "__getattribute__" = some (some (.builtin "type.__getattribute__"))
  r1 : PySem.W.readsIn K Wc (.type "type") = true
  f1 : PySem.W.findCls K (.ref Wc) (.type "type") "__init__" = some (.val (.builtin "ValueError.__init__"))
  sa : PySem.W.findIn K (.ref C) "__setattr__" = some (some (.builtin "object.__setattr__"))
  mr : mroVE K C = true
  na : PySem.W.findIn K (.ref C) "lands" = some none
def spNInit (C : Addr) : Sp := fun vs H Q _ => ∃ (e : Addr) (k : Nat), vs = [.ref e, .int k] /\ k <= 16 /\ H e = some (excN e C none) /\ ∀ dx, H dx = none -> dx ≠ e -> Q .non (upd (upd H dx (.xd [("lands", .int k)])) e (excN e C (some dx)))
theorem plane_len {k : Nat} (k9 : k <= 16) : (Str.empty ++ ("not plane, with " : Str)).length <= sizeLine /\ ((Str.empty ++ ("not plane, with " : Str)) ++ (toString (k : Int) : Str)).length <= sizeLine /\ (((Str.empty ++ ("not plane, with " : Str)) ++ (toString (k : Int) : Str)) ++ (" lands" : Str)).length <= sizeLine /\ (k : Int).natAbs.log2 < 1920 := by
  have : ∀ k : Nat, k < 17 -> (Str.empty ++ ("not plane, with " : Str)).length <= sizeLine /\ ((Str.empty ++ ("not plane, with " : Str)) ++ (toString (k : Int) : Str)).length <= sizeLine /\ (((Str.empty ++ ("not plane, with " : Str)) ++ (toString (k : Int) : Str)) ++ (" lands" : Str)).length <= sizeLine /\ (k : Int).natAbs.log2 < 1920 := by decide +kernel
  exact this k (by lia)
def spDrQ (K : W.Frag) (CJ CP : Addr) : Sp := fun vs H Q E => ∃ (kd : Kd) (a : Addr) (ts : List Nat) (m : Nat), vs = [.ref a] /\ HK kd H a ((ci ts).map V.int) /\ ts.length = 2 * m /\ PermOn (fn ts) (2 * m) /\ m <= 8 /\
  (¬ JnAll ts m -> ∀ H', Same H H' -> E (.ref CJ) none H') /\
  (JnAll ts m -> nv ts m + nf ts m ≠ m + 2 -> ∀ dx H', Same H H' -> H' dx = some (.xd [("lands", .int (nf ts m))]) -> E (.ref CP) (some dx) H') /\
  (JnAll ts m -> nv ts m + nf ts m = m + 2 -> ∀ t H', Same H H' -> SqT K H' t ((ci ts).map V.int) -> Q (.ref t) H')
def spDrB (K : W.Frag) (CD : Addr) : Sp := fun vs H _ E => ∃ x : V, vs = [x] /\ (∀ k : Nat, k <= 8 -> BadOrd K H (2 * k) x) /\ ∀ H', Same H H' -> E (.ref CD) none H'
section
variable {P : Program} {w : World} {K : W.Frag} {mg : Str -> Option Value} {base : Heap}
theorem scNInit : FnScope ["self", "lands"] ["self", "lands"] (defScope sNInit) := ⟨rfl, rfl, rfl, by decide +kernel, rfl, by decide +kernel, by decide +kernel⟩
theorem ok_ninit {f C Wc : Addr} {fd : FuncData} {bm : List Value} (F : Fun K "__init__" "NotPlane.__init__" sNInit f fd) (N : NT K mg C Wc bm) : FnOk P w K mg base CX0 1 f fd ["self", "lands"] (spNInit C) := by
  refine F.ok scNInit (fun vs H Q E h => ?_) (fun cdv A outer s H vs Q E hr h => ?_)
  · obtain ⟨_, _, rfl, _⟩ := h; rfl
  · obtain ⟨e, k, rfl, k9, he, q⟩ := h
    refine ⟨_, pss_cons (ps_initX (bm := bm) rfl N.gW N.s1 N.r1 N.f1 (pa_cons (pv 0) (pa_cons (pe_joined (pj_cons pe_str (pj_cons (pe_fint (pv 1)) (pj_cons pe_str pj_nil)))) pa_nil))) (pss_one (ps_setX (pv 0) (pv 1))), ?_⟩
    obtain ⟨l1, l2, l3, l4⟩ := plane_len k9
    exact ⟨_, rfl, _, rfl, l1, _, rfl, (k : Int), rfl, l4, _, rfl, l2, _, rfl, l3, l3, e, C, _, rfl, he, N.ib, _, rfl, _, rfl, e, C, rfl, he, N.sa, N.mr, N.na, fun dx h1 h2 => q dx h1 h2⟩
theorem scDrawing : FnScope ["turns", "drawing", "web", "lands"] ["turns"] (defScope sDrawing) := ⟨rfl, rfl, rfl, by decide +kernel, rfl, by decide +kernel, by decide +kernel⟩
theorem ndMt : (["many", "turns"] : List Str).Nodup := by decide +kernel
theorem d_drawQ {CD CJ CP Wc : Addr} {bd bj bm : List Value} (T : Txt K mg) (hany : mg "any" = none) {mtok : Tok} (hmt : mg "MOST_TIES" = some (.int 8 mtok)) (gD : mg "NoDrawing" = some (.ref CD)) (xD : excB K CD bd = true) (gJ : mg "NotJoined" = some (.ref CJ)) (xJ : excB K CJ bj = true) (N : NT K mg CP Wc bm) (S : Src K mg "drawing_of" sDrawing ["turns"]) (DE : Def P w K mg base 2 "is_each_once" ["thing", "many"] spOnce) (DW : Def P w K mg base 3 "web_of" ["drawing"] (spWebOf K)) (DJ : Def P w K mg base 3 "is_joined" ["web"] spJoined) (DL : Def P w K mg base 3 "lands_of" ["drawing"] (spLands K)) : DefQ P w K mg base 4 "drawing_of" ["turns"] (spDrQ K CJ CP) := by
  obtain ⟨fI, fdI, oI, hi, hfI, hfc, FI, bI⟩ := N.init
  have FO : FnOk P w K mg base CX0 1 fI fdI ["self", "lands"] (spNInit CP) := ok_ninit FI N
  refine Src.defQ S scDrawing (fun vs H Q E h => ?_) (fun f cdv A outer s H vs Q E hr h => ?_)
  · obtain ⟨_, _, _, _, rfl, _⟩ := h; rfl
  · obtain ⟨kd, a, ts, m, rfl, ha, tl, PT, m8, qj, qp, q⟩ := h
    have hr2 : Room 2 _ := hr.mono (by decide)
    refine ⟨_, pss_cons (ps_if (pt_not (pt_val (pe_callB (call_any rfl) (by rfl) hany boot_any84 (pa_cons (pe_comp (N' := ["many", "turns"]) (fr := [none, some 0]) (compOk_of (by rfl)) rfl (pi_range1 rfl T.range (pa_cons (pe_op op_add (pe_glob (v := .int 8) rfl hmt ⟨_, rfl⟩) pe_int) pa_nil))
        (fun _ _ _ _ => pg_name (i := 0) ndMt rfl (Or.inl rfl) (Or.inr rfl)) (fun _ _ _ _ => pifs_nil) (fun _ _ _ _ => pe_def DE hr2 rfl (pa_cons (pv 1) (pa_cons (pe_op op_mul pe_int (pv 0)) pa_nil)))) pa_nil)))) (pss_one (ps_raiseQ rfl gD xD (pa_cons (pe_joined (pj_cons pe_str (pj_cons (pe_fint (pe_glob (v := .int 8) rfl hmt ⟨_, rfl⟩)) (pj_cons pe_str pj_nil)))) pa_nil))) pss_nil)
      (pss_cons (ps_set (i := 1) scDrawing.nd rfl (Or.inl rfl) (pe_callTy (call_tuple_ofK K) rfl T.tuple boot_tuple' (pa_cons (pv 0) pa_nil)))
      (pss_cons (ps_set (i := 2) scDrawing.nd rfl (Or.inl rfl) (pe_def DW hr rfl (pa_cons (pv 1) pa_nil)))
      (pss_cons (ps_if (pt_not (pt_val (pe_def DJ hr rfl (pa_cons (pv 2) pa_nil)))) (pss_one (ps_raiseQ rfl gJ xJ (pa_cons pe_str pa_nil))) pss_nil)
      (pss_cons (ps_set (i := 3) scDrawing.nd rfl (Or.inl rfl) (pe_callB (call_lenK K) (by rfl) T.len PySem.boot_len (pa_cons (pe_def DL hr rfl (pa_cons (pv 1) pa_nil)) pa_nil)))
      (pss_cons (ps_if (pt_cmpR op_ne (pe_op op_add (pe_op op_sub (pe_ix (ix_tupK K) (pv 2) pe_int (fun _ _ => rfl)) (pe_callB (call_lenK K) (by rfl) T.len PySem.boot_len (pa_cons (pe_ix (ix_tupK K) (pv 2) pe_int (fun _ _ => rfl)) pa_nil))) (pv 3)) pe_int (nomark _)) (pss_one (ps_raiseN FO bI hr2 rfl N.gC N.ib hi hfI hfc (pa_cons (pv 3) pa_nil))) pss_nil)
      (pss_one (ps_ret (pv 1)))))))), ?_⟩
    refine seq_abs fun M hM => ?_
    refine ⟨_, _, rfl, rfl, 9, rfl, by decide, by decide, ?_⟩
    refine comp_range (lo := 0) (n := 9) (fun σ => ∃ v, σ = [v, some (.ref a)]) (fun i ys H' => Same H H' /\ ys = (((List.range i).map fun k => decide (2 * m = 2 * k)) : List Bool).map V.bl) ⟨_, rfl⟩ ⟨Same.refl _, rfl⟩ (ten_line (by decide)) ?_ ?_
    · rintro i ys σ H' N hi ⟨u, rfl⟩ ⟨sm, rfl⟩ hN
      rw [show (0 : Int) + (i : Int) = (i : Int) by lia]
      dsimp only [gName, List.set]
      refine yesT ⟨_, rfl, _, rfl, _, _, rfl, rfl, .inl ⟨by decide, by decide⟩, kd, a, 2 * i, 2 * m, ci ts, ?_, ha.same sm, by lia, by lia, perm_ups tl PT, fun H2 s2 => ?_⟩
      · rw [show ((2 * i : Nat) : Int) = 2 * (i : Int) by lia]
        rfl
      · refine hN _ _ _ ⟨_, rfl⟩ ⟨sm.trans s2, ?_⟩ (by simp)
        rw [List.range_succ, List.map_append, List.map_append]
        rfl
    rintro ys H1 ⟨s1, rfl⟩ p hp
    have an : ((List.range 9).map fun k => decide (2 * m = 2 * k)).any id = true := by
      rw [List.any_map, List.any_eq_true]
      exact ⟨m, List.mem_range.mpr (by lia), decide_eq_true rfl⟩
    refine ⟨p, _, rfl, SqL.of upd_same, _, rfl, ?_⟩
    rw [an]
    have s2 := s1.trans (Same.new (o := HO.lst (((List.range 9).map fun k => decide (2 * m = 2 * k)).map V.bl)) hp)
    refine iteF (hM _ _ ?_)
    clear hM M
    have ha2 := ha.same s2
    generalize upd H1 p (.lst (((List.range 9).map fun k => decide (2 * m = 2 * k)).map V.bl)) = H2 at s2 ha2 ⊢
    refine seq_abs fun M hM => ?_
    have go : ∀ t H3, Same H H3 -> SqT K H3 t ((ci ts).map V.int) -> M [some (.ref a), some (.ref t), none, none] H3 := fun t H3 s3 ht => by
      refine hM _ _ ?_
      clear hM M
      have n1 := rds_one (fn ts) (2 * m)
      have n16 := rds_most (fn ts) (2 * m) (by lia)
      have f16 := rds_most (phi ts) (2 * m) (by lia)
      refine seq_abs fun M hM => ?_
      refine ⟨_, rfl, t, ts, m, rfl, ht, PT, tl, m8, fun wv H4 s4 W => hM _ _ ?_⟩
      clear hM M
      dsimp only [List.set]
      have pl := tiesOf_len (rds (fn ts) (2 * m)) m
      refine seq_abs fun M hM => ?_
      refine ⟨_, rfl, wv, _, _, rfl, W, by lia, by lia, ties_in tl PT, by lia, fun H5 s5 => ⟨_, rfl, ?_⟩⟩
      rw [pl]
      have ji := joined_iff tl PT
      by_cases jo : JnAll ts m
      · rw [decide_eq_true (ji.mpr jo)]
        refine iteF (hM _ _ ?_)
        clear hM M
        refine seq_abs fun M hM => ?_
        have ht5 := sqT (s4.trans s5) ht
        refine ⟨_, rfl, t, ts, m, rfl, ht5, PT, tl, m8, fun l xs H6 s6 _ hl hx => ?_⟩
        have xl := Paired.length hx
        refine ⟨l, xs, rfl, .inl (SqL.of hl), hM _ _ ?_⟩
        clear hM M
        dsimp only [List.set]
        refine seq_abs fun M hM => ?_
        obtain ⟨c, d, zs, rfl, hc, hd, hz⟩ := (W.same (s5.trans s6)).ex
        have zl := Paired.length hz
        have s36 := s3.trans (s4.trans (s5.trans s6))
        refine ⟨_, rfl, c, _, _, _, rfl, rfl, SqT.of hc, atI_nat (j := 0) rfl, _, rfl, c, _, _, _, rfl, rfl, SqT.of hc, atI_nat (j := 1) rfl, d, zs, rfl, .inr (SqT.of hd), _, _, rfl, rfl, _, rfl, _, _, rfl, rfl, rfl, _, rfl, ?_⟩
        rw [zl, pl, xl]
        by_cases pn : nv ts m + nf ts m = m + 2
        · have pn' : (rds (fn ts) (2 * m)).length + (rds (phi ts) (2 * m)).length = m + 2 := pn
          rw [decide_eq_true (show V.int (((rds (fn ts) (2 * m)).length : Int) - (m : Int) + ((rds (phi ts) (2 * m)).length : Int)) = V.int 2 by congr 1; lia)]
          refine iteF (hM _ _ ?_)
          exact ⟨_, rfl, q jo pn t H6 s36 (sqT s6 ht5)⟩
        · have pn' : ¬ (rds (fn ts) (2 * m)).length + (rds (phi ts) (2 * m)).length = m + 2 := pn
          rw [decide_eq_false (show ¬ V.int (((rds (fn ts) (2 * m)).length : Int) - (m : Int) + ((rds (phi ts) (2 * m)).length : Int)) = V.int 2 from fun z => by injection z with z; lia)]
          refine iteT ⟨_, rfl, by show 1 <= 100; decide, fun e he => ⟨e, (rds (phi ts) (2 * m)).length, rfl, f16, upd_same, fun dx hdx hne => ⟨rfl, some dx, upd_same, ?_⟩⟩⟩
          have sm3 : Same H6 (rem (upd (upd (upd H6 e (excN e CP none)) dx (.xd [("lands", .int ((rds (phi ts) (2 * m)).length : Int))])) e (excN e CP (some dx))) e) := fun b o hb => by
            have n1 : b ≠ e := fun z => by rw [z, he] at hb; cases hb
            have n2 : b ≠ dx := fun z => by
              rw [upd_ne hne] at hdx
              rw [z, hdx] at hb
              cases hb
            rw [rem_ne n1, upd_ne n1, upd_ne n2, upd_ne n1]
            exact hb
          refine qp jo pn dx _ (s36.trans sm3) ?_
          rw [rem_ne hne, upd_ne hne, upd_same]
          rfl
      · rw [decide_eq_false (fun z => jo (ji.mp z))]
        exact iteT ⟨by decide, qj jo H5 (s3.trans (s4.trans s5))⟩
    refine ⟨_, rfl, a, (ci ts).map V.int, rfl, ?_⟩
    cases kd with
    | l => exact .inl ⟨HK.sq (kd := .l) ha2, fun t ht => go t _ (s2.trans (Same.new ht)) (SqT.of upd_same)⟩
    | t => exact .inr ⟨HK.sq (kd := .t) ha2, go a H2 s2 (HK.sq (kd := .t) ha2)⟩
theorem d_drawB {CD CJ CP Wc : Addr} {bd bj bm : List Value} (T : Txt K mg) (hany : mg "any" = none) {mtok : Tok} (hmt : mg "MOST_TIES" = some (.int 8 mtok)) (gD : mg "NoDrawing" = some (.ref CD)) (xD : excB K CD bd = true) (gJ : mg "NotJoined" = some (.ref CJ)) (xJ : excB K CJ bj = true) (N : NT K mg CP Wc bm) (S : Src K mg "drawing_of" sDrawing ["turns"]) (DE : Def P w K mg base 2 "is_each_once" ["thing", "many"] (spOnceB K)) (DW : Def P w K mg base 3 "web_of" ["drawing"] (spWebOf K)) (DJ : Def P w K mg base 3 "is_joined" ["web"] spJoined) (DL : Def P w K mg base 3 "lands_of" ["drawing"] (spLands K)) : DefQ P w K mg base 4 "drawing_of" ["turns"] (spDrB K CD) := by
  obtain ⟨fI, fdI, oI, hi, hfI, hfc, FI, bI⟩ := N.init
  have FO : FnOk P w K mg base CX0 1 fI fdI ["self", "lands"] (spNInit CP) := ok_ninit FI N
  refine Src.defQ S scDrawing (fun vs H Q E h => ?_) (fun f cdv A outer s H vs Q E hr h => ?_)
  · obtain ⟨_, rfl, _⟩ := h; rfl
  · obtain ⟨x, rfl, bo, q⟩ := h
    have hr2 : Room 2 _ := hr.mono (by decide)
    refine ⟨_, pss_cons (ps_if (pt_not (pt_val (pe_callB (call_any rfl) (by rfl) hany boot_any84 (pa_cons (pe_comp (N' := ["many", "turns"]) (fr := [none, some 0]) (compOk_of (by rfl)) rfl (pi_range1 rfl T.range (pa_cons (pe_op op_add (pe_glob (v := .int 8) rfl hmt ⟨_, rfl⟩) pe_int) pa_nil))
        (fun _ _ _ _ => pg_name (i := 0) ndMt rfl (Or.inl rfl) (Or.inr rfl)) (fun _ _ _ _ => pifs_nil) (fun _ _ _ _ => pe_def DE hr2 rfl (pa_cons (pv 1) (pa_cons (pe_op op_mul pe_int (pv 0)) pa_nil)))) pa_nil)))) (pss_one (ps_raiseQ rfl gD xD (pa_cons (pe_joined (pj_cons pe_str (pj_cons (pe_fint (pe_glob (v := .int 8) rfl hmt ⟨_, rfl⟩)) (pj_cons pe_str pj_nil)))) pa_nil))) pss_nil)
      (pss_cons (ps_set (i := 1) scDrawing.nd rfl (Or.inl rfl) (pe_callTy (call_tuple_ofK K) rfl T.tuple boot_tuple' (pa_cons (pv 0) pa_nil)))
      (pss_cons (ps_set (i := 2) scDrawing.nd rfl (Or.inl rfl) (pe_def DW hr rfl (pa_cons (pv 1) pa_nil)))
      (pss_cons (ps_if (pt_not (pt_val (pe_def DJ hr rfl (pa_cons (pv 2) pa_nil)))) (pss_one (ps_raiseQ rfl gJ xJ (pa_cons pe_str pa_nil))) pss_nil)
      (pss_cons (ps_set (i := 3) scDrawing.nd rfl (Or.inl rfl) (pe_callB (call_lenK K) (by rfl) T.len PySem.boot_len (pa_cons (pe_def DL hr rfl (pa_cons (pv 1) pa_nil)) pa_nil)))
      (pss_cons (ps_if (pt_cmpR op_ne (pe_op op_add (pe_op op_sub (pe_ix (ix_tupK K) (pv 2) pe_int (fun _ _ => rfl)) (pe_callB (call_lenK K) (by rfl) T.len PySem.boot_len (pa_cons (pe_ix (ix_tupK K) (pv 2) pe_int (fun _ _ => rfl)) pa_nil))) (pv 3)) pe_int (nomark _)) (pss_one (ps_raiseN FO bI hr2 rfl N.gC N.ib hi hfI hfc (pa_cons (pv 3) pa_nil))) pss_nil)
      (pss_one (ps_ret (pv 1)))))))), ?_⟩
    refine ⟨_, _, rfl, rfl, 9, rfl, by decide, by decide, ?_⟩
    refine comp_range (lo := 0) (n := 9) (fun σ => ∃ v, σ = [v, some x]) (fun i ys H' => Same H H' /\ ys = (List.replicate i false).map V.bl) ⟨_, rfl⟩ ⟨Same.refl _, rfl⟩ (ten_line (by decide)) ?_ ?_
    · rintro i ys σ H' N hi ⟨u, rfl⟩ ⟨sm, rfl⟩ hN
      rw [show (0 : Int) + (i : Int) = (i : Int) by lia]
      dsimp only [gName, List.set]
      refine yesT ⟨_, rfl, _, rfl, _, _, rfl, rfl, .inl ⟨by decide, by decide⟩, x, 2 * i, ?_, by lia, (bo i (by lia)).same sm, fun H2 s2 => ?_⟩
      · rw [show ((2 * i : Nat) : Int) = 2 * (i : Int) by lia]
        rfl
      · refine hN _ _ _ ⟨_, rfl⟩ ⟨sm.trans s2, ?_⟩ (by simp)
        rw [List.replicate_succ', List.map_append]
        rfl
    rintro ys H1 ⟨s1, rfl⟩ p hp
    refine ⟨p, _, rfl, SqL.of upd_same, _, rfl, ?_⟩
    have an : (List.replicate 9 false).any id = false := by decide
    rw [an]
    have s2 := s1.trans (Same.new (o := HO.lst ((List.replicate 9 false).map V.bl)) hp)
    exact iteT ⟨_, rfl, by decide +kernel, 8, rfl, by decide +kernel, _, rfl, by decide +kernel, _, rfl, by decide +kernel, by decide +kernel, by show 1 <= 100; decide, q _ s2⟩
end
def gal (a : Nat) (ts : List Nat) : Nat -> Nat := if a = 0 then fn ts else phi ts
theorem gal_perm {a : Nat} {ts : List Nat} {m : Nat} (P : PermOn (fn ts) (2 * m)) : PermOn (gal a ts) (2 * m) := by
  unfold gal
  split
  · exact P
  · exact P.phi
def alo (a x : Nat) : Nat := if a = 0 then x else mate x
theorem gal_alo (a : Nat) (ts : List Nat) (x : Nat) : fn ts (alo a x) = gal a ts x := by unfold gal alo; split <;> rfl
theorem alo_lt {a x m : Nat} (h : x < 2 * m) : alo a x < 2 * m := by
  unfold alo
  split
  · exact h
  · exact mate_lt h
theorem xor16 : ∀ x ∈ List.range 16, ∀ a ∈ [0, 1], Builtin.bitXor ((x : Nat) : Int) ((a : Nat) : Int) = ((alo a x : Nat) : Int) := by decide +kernel
theorem xor_al {x a : Nat} (hx : x < 16) (ha : a = 0 \/ a = 1) : Builtin.bitXor ((x : Nat) : Int) ((a : Nat) : Int) = ((alo a x : Nat) : Int) := xor16 x (List.mem_range.mpr hx) a (by rcases ha with rfl | rfl <;> simp)
def spAt (K : W.Frag) : Sp := fun vs H Q _ => ∃ (a : Addr) (ns : List Int) (k : Nat), vs = [.ref a, .int k] /\ SqL K H a (ns.map V.int) /\ Q (.int (ns.getD k 0)) H
def spLRound : Sp := fun vs H Q _ => ∃ (lt : Addr) (ts : List Nat) (st a m : Nat), vs = [.ref lt, .int st, .int a] /\ H lt = some (.lst ((ci ts).map V.int)) /\ PermOn (fn ts) (2 * m) /\ ts.length = 2 * m /\ m <= 8 /\ st < 2 * m /\ (a = 0 \/ a = 1) /\ ∀ l H', Same H H' -> H l = none -> H' l = some (.lst ((ci (rnd (gal a ts) st)).map V.int)) -> Q (.ref l) H'
structure Seen (H : Hp) (sd : Addr) (S : Nat -> Prop) (b : Nat) : Prop where
  ex : ∃ kvs : List (Key × V), H sd = some (.dK kvs) /\ (∀ x : Nat, (valV kvs (.inl (x : Int))).isSome = true ↔ S x) /\ kvs.length <= b
theorem Seen.same {H H' : Hp} {sd : Addr} {S : Nat -> Prop} {b : Nat} (h : Seen H sd S b) (s : ∀ o, H sd = some o -> H' sd = some o) : Seen H' sd S b := by
  obtain ⟨kvs, h1, h2⟩ := h.ex
  exact ⟨kvs, s _ h1, h2⟩
theorem Seen.put {H : Hp} {sd : Addr} {S : Nat -> Prop} {b x : Nat} (h : Seen H sd S b) (hb : b < 300) : ∃ H2, DPut H sd (.int (x : Int)) (.bl true) H2 /\ (∃ o, H2 = upd H sd o) /\ Seen H2 sd (fun y => S y \/ y = x) (b + 1) := by
  obtain ⟨kvs, h1, h2, h3⟩ := h.ex
  refine ⟨_, DPut.k (k := .inl (x : Int)) h1 (line84 (by lia)), ⟨_, rfl⟩, ⟨_, upd_same, fun y => ?_, by have := length_putK kvs (.inl (x : Int) : Key) (.bl true); lia⟩⟩
  rw [valV_put]
  by_cases c : y = x
  · rw [c, if_pos rfl]
    exact ⟨fun _ => .inr rfl, fun _ => rfl⟩
  · rw [if_neg (fun z => c (by injection z with z; lia)), h2 y]
    exact ⟨fun z => .inl z, fun z => z.resolve_right c⟩
theorem Seen.get {H : Hp} {sd : Addr} {S : Nat -> Prop} {b : Nat} (h : Seen H sd S b) (x : Nat) : ∃ o, DGet H sd (.int (x : Int)) o /\ (o.isSome = true ↔ S x) := by
  obtain ⟨kvs, h1, h2, h3⟩ := h.ex
  exact ⟨_, DGet.k (k := .inl (x : Int)) h1, h2 x⟩
theorem Seen.congr {H : Hp} {sd : Addr} {S S' : Nat -> Prop} {b b' : Nat} (h : Seen H sd S b) (hs : ∀ x, S x ↔ S' x) (hb : b <= b') : Seen H sd S' b' := by
  obtain ⟨kvs, h1, h2, h3⟩ := h.ex
  exact ⟨kvs, h1, fun x => (h2 x).trans (hs x), by lia⟩
theorem reps_succ (i : Nat) (R : Nat -> Nat -> Prop) : reps (i + 1) R = reps i R ++ (if isRep R i then [i] else []) := by
  unfold reps
  rw [List.range_succ, List.filter_append]
  congr 1
  by_cases c : isRep R i = true
  · rw [List.filter_cons_of_pos c, if_pos c]; rfl
  · rw [List.filter_cons_of_neg c, if_neg c]; rfl
theorem seen_iff {N i : Nat} {R : Nat -> Nat -> Prop} (e : Equ R) (hi : i < N) : (∃ r, r ∈ reps i R /\ R r i) ↔ isRep R i = false := by
  constructor
  · rintro ⟨r, h1, h2⟩
    by_cases c : isRep R i = true
    · exact absurd (e.s h2) (isRep_iff.mp c r (mem_reps.mp h1).1)
    · simpa using c
  · intro h
    have : ∃ y, y < i /\ R i y := by
      refine Classical.byContradiction fun hn => ?_
      have : isRep R i = true := isRep_iff.mpr fun y hy z => hn ⟨y, hy, z⟩
      rw [h] at this
      cases this
    obtain ⟨y, hy, z⟩ := this
    obtain ⟨r, _, h2, h3⟩ := rep_ex (N := i) e hy
    exact ⟨r, h3, e.s (e.t z h2)⟩
theorem ins_perm {ord : List Int} {j : Nat} (pm : ord.Perm (ups j)) (i : Nat) : (ord.take i ++ (j : Int) :: ord.drop i).Perm (ups ((j + 1 : Nat) : Int)) := by
  have e1 : ups ((j + 1 : Nat) : Int) = ups j ++ [(j : Int)] := by rw [show ((j + 1 : Nat) : Int) = (j : Int) + 1 by lia, ups_snoc (by lia)]
  rw [e1]
  refine List.perm_middle.trans ?_
  rw [List.take_append_drop]
  exact (pm.cons _).trans (List.perm_append_singleton _ _).symm
section
variable {P : Program} {w : World} {K : W.Frag} {mg : Str -> Option Value} {base : Heap}
theorem scAt : FnScope ["_law_script", "_law_k"] ["_law_script", "_law_k"] (defScope sAt) := ⟨rfl, rfl, rfl, by decide +kernel, rfl, by decide +kernel, by decide +kernel⟩
theorem d_at (T : Txt K mg) (S : Src K mg "_law_at" sAt ["_law_script", "_law_k"]) : Def P w K mg base 1 "_law_at" ["_law_script", "_law_k"] (spAt K) := by
  refine S.def scAt (fun vs H Q E h => ?_) (fun f cdv A outer s H vs Q E hr h => ?_)
  · obtain ⟨_, _, _, rfl, _⟩ := h; rfl
  · obtain ⟨a, ns, k, rfl, hq, q⟩ := h
    refine ⟨_, pss_cons (ps_if (pt_cmpR op_lt (pv 1) (pe_callB (call_lenK K) (by rfl) T.len PySem.boot_len (pa_cons (pv 0) pa_nil)) (nomark _)) (pss_one (ps_ret (pe_ix (ix_listK K) (pv 0) (pv 1) (fun _ _ => rfl)))) pss_nil) (pss_one (ps_ret pe_int)), ?_⟩
    refine ⟨_, rfl, _, rfl, a, _, rfl, .inl hq, _, _, rfl, rfl, _, rfl, ?_⟩
    rw [List.length_map]
    by_cases h : k < ns.length
    · rw [decide_eq_true (show (k : Int) < (ns.length : Int) by lia)]
      refine iteT ⟨_, rfl, _, rfl, a, _, _, .int (ns.getD k 0), rfl, rfl, hq, atI_nat ?_, q⟩
      rw [List.getElem?_map, List.getD_eq_getElem?_getD]
      simp [h]
    · rw [decide_eq_false (show ¬ (k : Int) < (ns.length : Int) by lia)]
      refine iteF ?_
      rw [List.getD_eq_getElem?_getD, List.getElem?_eq_none (by lia)] at q
      exact q
theorem scLRound : FnScope ["_law_turns_here", "_law_first", "_law_along", "_law_row", "_law_end"] ["_law_turns_here", "_law_first", "_law_along"] (defScope sLRound) := ⟨rfl, rfl, rfl, by decide +kernel, rfl, by decide +kernel, by decide +kernel⟩
theorem d_lround (S : Src K mg "_law_round" sLRound ["_law_turns_here", "_law_first", "_law_along"]) : Def P w K mg base 1 "_law_round" ["_law_turns_here", "_law_first", "_law_along"] spLRound := by
  refine S.def scLRound (fun vs H Q E h => ?_) (fun f cdv A outer s H vs Q E hr h => ?_)
  · obtain ⟨_, _, _, _, _, rfl, _⟩ := h; rfl
  · obtain ⟨lt, ts, st, a, m, rfl, hlt, PT, tl, m8, hs, ha, q⟩ := h
    refine ⟨_, pss_cons (ps_set (i := 3) scLRound.nd rfl (Or.inl rfl) (pe_lst (pa_cons (pv 1) pa_nil)))
      (pss_cons (ps_set (i := 4) scLRound.nd rfl (Or.inl rfl) (pe_ix (ix_listK K) (pv 0) (pe_op op_xor (pv 1) (pv 2)) (fun _ _ => rfl)))
      (pss_cons (ps_while PassesOwn.never (pt_cmpR op_ne (pv 4) (pv 1) (nomark _))
        (pss_cons (ps_expr (pe_bm PySem.F.plainAttrs_list PySem.F.slot_list_append PySem.F.type_list_append mt_append (pv 3) (pa_cons (pv 4) pa_nil)))
        (pss_one (ps_set (i := 4) scLRound.nd rfl (Or.inl rfl) (pe_ix (ix_listK K) (pv 0) (pe_op op_xor (pv 4) (pv 2)) (fun _ _ => rfl))))))
      (pss_one (ps_ret (pv 3))))), ?_⟩
    have PG := gal_perm (a := a) PT
    obtain ⟨p, pN, hp⟩ := PG.per hs
    have pp := hp.pos
    have next : ∀ x, x < 2 * m -> atI ((ci ts).map V.int) (Builtin.bitXor ((x : Nat) : Int) ((a : Nat) : Int)) = some (.int (gal a ts x : Nat)) := fun x hx => by
      rw [xor_al (by lia) ha, <- gal_alo]
      exact ci_at (by have := alo_lt (a := a) hx; lia)
    refine ⟨_, rfl, by show 1 <= sizeLine; decide, fun l hl => ?_⟩
    have s0 := Same.new (o := HO.lst [.int (st : Int)]) hl
    have h0 : (upd H l (.lst [.int (st : Int)])) l = some (.lst ((ci (wlk (gal a ts) st 0)).map V.int)) := upd_same
    have hlt0 := s0 _ _ hlt
    generalize upd H l (.lst [.int (st : Int)]) = H0 at s0 h0 hlt0 ⊢
    dsimp only [List.set]
    refine ⟨_, rfl, _, rfl, _, rfl, _, _, rfl, rfl, lt, _, _, _, rfl, rfl, SqL.of hlt0, next st hs, ?_⟩
    dsimp only [List.set]
    refine ⟨fun n σ H' => ∃ j, n + j = p /\ j + 1 <= p /\ σ = [some (.ref lt), some (.int (st : Int)), some (.int (a : Int)), some (.ref l), some (.int (itr (gal a ts) st (j + 1) : Nat))] /\ Same H H' /\ H' l = some (.lst ((ci (wlk (gal a ts) st j)).map V.int)), ⟨p, 0, rfl, by lia, rfl, s0, h0⟩, ?_⟩
    rintro n σ H' ⟨j, mj, jp, rfl, sm, hl'⟩
    refine ⟨_, rfl, _, rfl, rfl, _, rfl, ?_⟩
    by_cases c : j + 1 = p
    · rw [decide_eq_true (show V.int ((itr (gal a ts) st (j + 1) : Nat) : Int) = V.int (st : Int) by rw [c, hp.back])]
      refine iteF ⟨_, rfl, q l H' sm hl ?_⟩
      rw [hl', show j = p - 1 by lia, wlk_end hp]
    · have ne := hp.no (j + 1) (by lia) (by lia)
      rw [decide_eq_false (show ¬ V.int ((itr (gal a ts) st (j + 1) : Nat) : Int) = V.int (st : Int) from fun z => by injection z with z; exact ne (by lia))]
      refine iteT ⟨fun σ' H2 => σ' = [some (.ref lt), some (.int (st : Int)), some (.int (a : Int)), some (.ref l), some (.int (itr (gal a ts) st (j + 2) : Nat))] /\ Same H H2 /\ H2 l = some (.lst ((ci (wlk (gal a ts) st (j + 1))).map V.int)), ?_, ?_⟩
      · rintro σ' H2 ⟨rfl, s2, h2⟩
        exact ⟨n - 1, by lia, j + 1, by lia, by lia, rfl, s2, h2⟩
      · refine ⟨_, rfl, .inl ⟨rfl, _, SqL.of hl'⟩, _, rfl, l, _, _, rfl, rfl, hl', ?_, ?_⟩
        · rw [List.length_map, ci_len]
          unfold wlk
          rw [List.length_map, List.length_range]
          exact line84 (by lia)
        · have s3 : Same H (upd H' l (.lst ((ci (wlk (gal a ts) st j)).map V.int ++ [.int (itr (gal a ts) st (j + 1) : Nat)]))) := Same.put84 sm hl
          refine ⟨_, rfl, _, rfl, _, rfl, _, _, rfl, rfl, lt, _, _, _, rfl, rfl, SqL.of (s3 _ _ hlt), next _ (PG.itr_lt hs (j + 1)), rfl, s3, ?_⟩
          rw [upd_same, wlk_succ, ci_snoc]
end
theorem call_lenD {X : Cx} : CallR X (.builtin "len") (fun xs H Q => ∃ (p : Addr) (kvs : List (Key × V)), xs = [.ref p] /\ H p = some (.dK kvs) /\ Q (.int kvs.length) H) := by
  intro pins s σ H xs us Q I r h
  obtain ⟨p, kvs, rfl, e, q⟩ := h
  obtain ⟨u, rfl, ru⟩ := Vals.one r
  cases (show u = Value.ref p from ru)
  exact d_len I (.inl e) fun t s' I' => ⟨.int kvs.length, H, I', ⟨t, rfl⟩, q⟩
def spTurns (K : W.Frag) : Sp := fun vs H Q _ => ∃ (a : Addr) (ns : List Int), vs = [.ref a] /\ SqL K H a (ns.map V.int) /\ ∀ (l : Addr) (ts : List Nat) (m : Nat) (H' : Hp), Same H H' -> H' l = some (.lst ((ci ts).map V.int)) -> ts.length = 2 * m -> PermOn (fn ts) (2 * m) -> m <= 8 -> Q (.ref l) H'
def spCount : Sp := fun vs H Q _ => ∃ (lt : Addr) (ts : List Nat) (a m : Nat), vs = [.ref lt, .int a] /\ H lt = some (.lst ((ci ts).map V.int)) /\ PermOn (fn ts) (2 * m) /\ ts.length = 2 * m /\ m <= 8 /\ (a = 0 \/ a = 1) /\ ∀ H', Same H H' -> Q (.int (rds (gal a ts) (2 * m)).length) H'
def spLJoined : Sp := fun vs H Q _ => ∃ (lt : Addr) (ts : List Nat) (m : Nat), vs = [.ref lt] /\ H lt = some (.lst ((ci ts).map V.int)) /\ PermOn (fn ts) (2 * m) /\ ts.length = 2 * m /\ m <= 8 /\ ∀ H' b, Same H H' -> (b = true ↔ JnAll ts m) -> Q (.bl b) H'
def kvL (L : List Nat) : List (Key × V) := L.map fun (x : Nat) => ((.inl (x : Int) : Key), V.bl true)
theorem kvL_is (L : List Nat) (x : Nat) : (valV (kvL L) (.inl (x : Int))).isSome = decide (x ∈ L) := by
  rw [<- valV_any]
  unfold kvL
  rw [List.any_map, Bool.eq_iff_iff, List.any_eq_true, decide_eq_true_iff]
  constructor
  · rintro ⟨y, hy, e⟩
    have e' : ((.inl (y : Int) : Key)) = .inl (x : Int) := of_decide_eq_true e
    injection e' with e'
    have : y = x := by lia
    rw [<- this]
    exact hy
  · intro h
    exact ⟨x, h, decide_eq_true rfl⟩
theorem kvL_put {L : List Nat} {x : Nat} (h : x ∉ L) : putK (kvL L) (.inl (x : Int)) (.bl true) = kvL (L ++ [x]) := by
  have : valV (kvL L) (.inl (x : Int)) = none := by
    have e := kvL_is L x
    rw [decide_eq_false h] at e
    cases z : valV (kvL L) (.inl (x : Int)) with
    | none => rfl
    | some _ => rw [z] at e; cases e
  rw [putK_new _ this]
  unfold kvL
  rw [List.map_append]
  rfl
theorem last_ci {W : List Nat} (h : W ≠ []) : ∃ e W', W = W' ++ [e] := ⟨W.getLast h, W.dropLast, (List.dropLast_concat_getLast h).symm⟩
structure Spr (ts : List Nat) (m : Nat) (L W : List Nat) (e : Option Nat) : Prop where
  nd : L.Nodup
  z0 : 0 ∈ L
  inn : ∀ x ∈ L, x < 2 * m /\ Jn ts x 0
  sub : ∀ x ∈ W, x ∈ L
  cl : ∀ x ∈ L, x ∉ W -> some x = e \/ (fn ts x ∈ L /\ mate x ∈ L)
theorem Spr.len {ts : List Nat} {m : Nat} {L W : List Nat} {e : Option Nat} (h : Spr ts m L W e) : L.length <= 2 * m := by
  have := nd_sub84 (l := L) (m := List.range (2 * m)) h.nd (fun y hy => List.mem_range.mpr (h.inn y hy).1)
  rw [List.length_range] at this
  exact this
theorem Spr.add {ts : List Nat} {m : Nat} {L W : List Nat} {e : Option Nat} (h : Spr ts m L W e) {x : Nat} (nx : x ∉ L) (xm : x < 2 * m) (jx : Jn ts x 0) : Spr ts m (L ++ [x]) (W ++ [x]) e where
  nd := List.nodup_append.mpr ⟨h.nd, by simp, fun a ha b hb z => nx (by rw [<- List.mem_singleton.mp hb, <- z]; exact ha)⟩
  z0 := List.mem_append.mpr (.inl h.z0)
  inn := fun y hy => by
    rcases List.mem_append.mp hy with hy | hy
    · exact h.inn y hy
    · rw [List.mem_singleton.mp hy]; exact ⟨xm, jx⟩
  sub := fun y hy => by
    rcases List.mem_append.mp hy with hy | hy
    · exact List.mem_append.mpr (.inl (h.sub y hy))
    · exact List.mem_append.mpr (.inr hy)
  cl := fun y hy ny => by
    rcases List.mem_append.mp hy with hy | hy
    · rcases h.cl y hy (fun z => ny (List.mem_append.mpr (.inl z))) with z | z
      · exact .inl z
      · exact .inr ⟨List.mem_append.mpr (.inl z.1), List.mem_append.mpr (.inl z.2)⟩
    · exact absurd (List.mem_append.mpr (.inr hy)) ny
section
variable {P : Program} {w : World} {K : W.Frag} {mg : Str -> Option Value} {base : Heap}
seal PSs PS PE PI PA PT PG
theorem scTurns : FnScope ["_law_script", "_law_many", "_law_row", "_law_k"] ["_law_script"] (defScope sTurns) := ⟨rfl, rfl, rfl, by decide +kernel, rfl, by decide +kernel, by decide +kernel⟩
theorem d_turns (T : Txt K mg) (S : Src K mg "_law_turns" sTurns ["_law_script"]) (DA : Def P w K mg base 1 "_law_at" ["_law_script", "_law_k"] (spAt K)) : Def P w K mg base 2 "_law_turns" ["_law_script"] (spTurns K) := by
  refine S.def scTurns (fun vs H Q E h => ?_) (fun f cdv A outer s H vs Q E hr h => ?_)
  · obtain ⟨_, _, rfl, _⟩ := h; rfl
  · obtain ⟨a, ns, rfl, hq, q⟩ := h
    refine ⟨_, pss_cons (ps_set (i := 1) scTurns.nd rfl (Or.inl rfl) (pe_op op_mul pe_int (pe_op op_mod (pe_def DA hr rfl (pa_cons (pv 0) (pa_cons pe_int pa_nil))) pe_int)))
      (pss_cons (ps_set (i := 2) scTurns.nd rfl (Or.inl rfl) (pe_lst pa_nil))
      (pss_cons (ps_for PassesOwn.never rfl (pi_range1 rfl T.range (pa_cons (pv 1) pa_nil)) (pg_name (i := 3) scTurns.nd rfl (Or.inl rfl))
        (pss_one (ps_expr (pe_bm PySem.F.plainAttrs_list PySem.F.slot_list_insert PySem.F.type_list_insert mt_insert (pv 2) (pa_cons (pe_op op_mod (pe_def DA hr rfl (pa_cons (pv 0) (pa_cons (pe_op op_add pe_int (pv 3)) pa_nil))) (pe_op op_add (pv 3) pe_int)) (pa_cons (pv 3) pa_nil))))))
      (pss_one (ps_ret (pv 2))))), ?_⟩
    have m9 := mod_in (ns.getD 0 0) 9 (by decide)
    obtain ⟨m, em⟩ := Int.eq_ofNat_of_zero_le m9.1
    refine seq_abs fun M hM => ?_
    refine ⟨_, rfl, a, ns, 0, rfl, hq, _, _, rfl, rfl, (by show (0 : Int) < 9; decide), _, _, rfl, rfl, .inl ⟨by decide, by decide⟩, ?_⟩
    show gName 1 (V.int (2 * (ns.getD 0 0 % 9))) _ _ _
    rw [em, show (2 : Int) * (m : Int) = ((2 * m : Nat) : Int) by lia]
    refine hM _ _ ?_
    clear hM M
    dsimp only [List.set]
    refine ⟨Nat.zero_le _, fun g hg => ?_⟩
    have s0 := Same.new (o := HO.lst []) hg
    have g0 : (upd H g (.lst [])) g = some (.lst (([] : List Int).map V.int)) := upd_same
    generalize upd H g (.lst []) = H1 at s0 g0 ⊢
    dsimp only [List.set]
    refine ⟨_, rfl, ((2 * m : Nat) : Int), rfl, by lia, by lia, ?_⟩
    rw [Int.toNat_natCast]
    refine for_range (lo := 0) (n := 2 * m) (fun j σ H' => (∃ (u : Option V), σ = [some (.ref a), some (.int ((2 * m : Nat) : Int)), some (.ref g), u]) /\ Same H H' /\ ∃ ord : List Int, H' g = some (.lst (ord.map V.int)) /\ ord.Perm (ups j)) ⟨⟨_, rfl⟩, s0, [], g0, List.Perm.refl _⟩ ?_ ?_
    · rintro j σ H2 hj ⟨⟨u, rfl⟩, sm, ord, ho, pm⟩
      have ol : ord.length = j := by rw [pm.length_eq, ups_len]; lia
      rw [show (0 : Int) + (j : Int) = (j : Int) by lia]
      dsimp only [gName, List.set]
      refine ⟨_, rfl, .inl ⟨rfl, _, SqL.of ho⟩, _, rfl, _, rfl, _, _, rfl, rfl, a, ns, 2 + j, ?_, sm.seq hq, _, rfl, _, _, rfl, rfl, _, _, rfl, rfl, (by show (0 : Int) < (j : Int) + 1; lia), _, rfl, ?_⟩
      · show [V.ref a, V.int (2 + (j : Int))] = [V.ref a, V.int ((2 + j : Nat) : Int)]
        rw [Int.natCast_add]
        rfl
      generalize ns.getD (2 + j) 0 = z0
      have hz := mod_in z0 ((j : Int) + 1) (by lia)
      obtain ⟨i, hi⟩ := Int.eq_ofNat_of_zero_le hz.1
      refine ⟨g, ord.map V.int, i, .int j, rfl, ?_, ho, by rw [List.length_map]; lia, by rw [List.length_map]; lia, ?_⟩
      · show [V.int (z0 % ((j : Int) + 1)), V.int (j : Int)] = [V.int (i : Int), V.int (j : Int)]
        rw [hi]
      refine ⟨⟨_, rfl⟩, Same.put84 sm hg, ord.take i ++ (j : Int) :: ord.drop i, ?_, ins_perm pm i⟩
      rw [upd_same, List.map_append, List.map_cons, List.map_take, List.map_drop]
    · rintro σ H2 ⟨⟨u, rfl⟩, sm, ord, ho, pm⟩
      obtain ⟨ts, rfl, tl, PT⟩ := perm_nat pm
      exact ⟨_, rfl, q g ts m H2 sm ho tl PT (by lia)⟩
theorem scCount : FnScope ["_law_turns_here", "_law_along", "_law_seen", "_law_many", "_law_first", "_law_end"] ["_law_turns_here", "_law_along"] (defScope sCount) := ⟨rfl, rfl, rfl, by decide +kernel, rfl, by decide +kernel, by decide +kernel⟩
theorem d_count (T : Txt K mg) (S : Src K mg "_law_count" sCount ["_law_turns_here", "_law_along"]) (DR : Def P w K mg base 1 "_law_round" ["_law_turns_here", "_law_first", "_law_along"] spLRound) : Def P w K mg base 2 "_law_count" ["_law_turns_here", "_law_along"] spCount := by
  refine S.def scCount (fun vs H Q E h => ?_) (fun f cdv A outer s H vs Q E hr h => ?_)
  · obtain ⟨_, _, _, _, rfl, _⟩ := h; rfl
  · obtain ⟨lt, ts, a, m, rfl, hlt, PT, tl, m8, ha, q⟩ := h
    refine ⟨_, pss_cons (ps_set (i := 2) scCount.nd rfl (Or.inl rfl) pe_dnewK)
      (pss_cons (ps_set (i := 3) scCount.nd rfl (Or.inl rfl) pe_int)
      (pss_cons (ps_for PassesOwn.never rfl (pi_range1 rfl T.range (pa_cons (pe_callB (call_lenK K) (by rfl) T.len PySem.boot_len (pa_cons (pv 0) pa_nil)) pa_nil)) (pg_name (i := 4) scCount.nd rfl (Or.inl rfl))
        (pss_one (ps_if (pt_cmp (pc_dnotin (hu_of hr) (pv 4) (pv 2)) rfl)
          (pss_cons (ps_set (i := 3) scCount.nd rfl (Or.inl rfl) (pe_op op_add (pv 3) pe_int))
          (pss_one (ps_for PassesOwn.never rfl (pi_seqK K .l (pe_def DR hr rfl (pa_cons (pv 0) (pa_cons (pv 4) (pa_cons (pv 1) pa_nil))))) (pg_name (i := 5) scCount.nd rfl (Or.inl rfl)) (pss_one (ps_dput (hu_of hr) (pv 2) (pv 5) pe_bl rfl))))) pss_nil)))
      (pss_one (ps_ret (pe_callB (call_max2 rfl) (by rfl) T.max boot_max' (pa_cons (pv 3) (pa_cons pe_int pa_nil))))))), ?_⟩
    have PG := gal_perm (a := a) PT
    have eq := cn_equ (gal a ts) (2 * m)
    refine seq_abs fun M hM => ?_
    refine fun sd hsd => hM _ _ ?_
    clear hM M
    have s2 := Same.new (o := HO.dK []) hsd
    have se0 : Seen (upd H sd (.dK [])) sd (fun x => ∃ r, r ∈ reps 0 (Cn (gal a ts) (2 * m)) /\ Cn (gal a ts) (2 * m) r x) 0 := ⟨[], upd_same, fun x => Iff.intro (fun z => nomatch z) (fun z => by obtain ⟨r, h, _⟩ := z; exact nomatch h), Nat.le_refl _⟩
    generalize upd H sd (.dK []) = H2 at se0 s2 ⊢
    try dsimp only [List.set]
    refine seq_abs fun M0 hM0 => hM0 _ _ ?_
    clear hM0 M0
    try dsimp only [List.set]
    refine seq_abs fun M hM => ?_
    refine ⟨_, rfl, lt, _, rfl, .inl (SqL.of (s2 _ _ hlt)), _, rfl, ?_, ?_, ?_⟩
    · lia
    · rw [List.length_map, ci_len]; lia
    rw [List.length_map, ci_len, tl, Int.toNat_natCast]
    refine for_range (lo := 0) (n := 2 * m) (fun i σ H' => (∃ u v, σ = [some (.ref lt), some (.int (a : Int)), some (.ref sd), some (.int ((reps i (Cn (gal a ts) (2 * m))).length : Int)), u, v]) /\ Same H H' /\ Seen H' sd (fun x => ∃ r, r ∈ reps i (Cn (gal a ts) (2 * m)) /\ Cn (gal a ts) (2 * m) r x) (16 * i)) ⟨⟨_, _, rfl⟩, s2, se0⟩ ?_ ?_
    · rintro i σ H3 hi ⟨⟨u, v, rfl⟩, s3, se3⟩
      rw [show (0 : Int) + (i : Int) = (i : Int) by lia]
      dsimp only [gName, List.set]
      obtain ⟨o, dg, io⟩ := se3.get i
      refine ⟨_, rfl, _, rfl, sd, o, rfl, dg, _, rfl, ?_⟩
      have si := (io.trans (seen_iff eq hi))
      by_cases c : isRep (Cn (gal a ts) (2 * m)) i = true
      · have on : o.isSome = false := by
          cases ho : o.isSome with
          | false => rfl
          | true => rw [si.mp ho] at c; cases c
        rw [on]
        refine iteT ⟨_, rfl, _, _, rfl, rfl, ?_⟩
        dsimp only [gName, List.set]
        refine ⟨_, rfl, _, rfl, _, rfl, lt, ts, i, a, m, rfl, s3 _ _ hlt, PT, tl, m8, hi, ha, fun r H4 s4 hr0 hr4 => ?_⟩
        have rl := rnd_len PG hi
        have nsd : r ≠ sd := fun z => by
          obtain ⟨kvs, hk, _⟩ := se3.ex
          rw [z, hk] at hr0
          cases hr0
        have se4 := se3.same (fun o e => s4 _ _ e)
        refine ⟨r, rfl, ⟨_, SqL.of hr4⟩, for_seq (k := .l) (K := K) (a := r) (xs := (ci (rnd (gal a ts) i)).map V.int) (fun j σ H' => (∃ z, σ = [some (.ref lt), some (.int (a : Int)), some (.ref sd), some (.int (((reps i (Cn (gal a ts) (2 * m))).length : Int) + 1)), some (.int (i : Int)), z]) /\ Same H H' /\ H' r = some (.lst ((ci (rnd (gal a ts) i)).map V.int)) /\ Seen H' sd (fun x => (∃ r, r ∈ reps i (Cn (gal a ts) (2 * m)) /\ Cn (gal a ts) (2 * m) r x) \/ x ∈ (rnd (gal a ts) i).take j) (16 * i + j))
          ⟨⟨_, rfl⟩, s3.trans s4, hr4, se4.congr (fun x => ⟨fun h => .inl h, fun h => h.resolve_right (fun z => nomatch z)⟩) (Nat.le_refl _)⟩ (fun j σ H' _ z => SqL.of z.2.2.1) ?_ ?_⟩
        · rintro j x σ H5 hxj ⟨⟨z, rfl⟩, s5, hr5, se5⟩
          obtain ⟨e, ee, rfl⟩ := nat_item hxj
          have jl := (List.getElem?_eq_some_iff.mp ee).1
          dsimp only [gName, List.set]
          obtain ⟨H6, dp, ⟨o6, eH⟩, se6⟩ := se5.put (x := e) (by lia)
          refine ⟨_, rfl, _, rfl, sd, H6, rfl, dp, ⟨_, rfl⟩, by rw [eH]; exact Same.put84 s5 hsd, by rw [eH, upd_ne nsd]; exact hr5, se6.congr (fun x => ?_) (Nat.le_refl _)⟩
          rw [take_succ_of ee, List.mem_append, List.mem_singleton, or_assoc]
        · rintro σ H5 ⟨⟨z, rfl⟩, s5, hr5, se5⟩
          refine ⟨⟨some (.int (i : Int)), z, ?_⟩, s5, se5.congr (fun x => ?_) (by rw [List.length_map, ci_len]; lia)⟩
          · rw [reps_succ, if_pos c, List.length_append]
            rfl
          · rw [List.length_map, ci_len, List.take_length, mem_rnd PG hi, reps_succ, if_pos c]
            constructor
            · rintro (⟨r', h1, h2⟩ | h)
              · exact ⟨r', List.mem_append.mpr (.inl h1), h2⟩
              · exact ⟨i, List.mem_append.mpr (.inr (List.mem_singleton.mpr rfl)), h⟩
            · rintro ⟨r', h1, h2⟩
              rcases List.mem_append.mp h1 with h1 | h1
              · exact .inl ⟨r', h1, h2⟩
              · rw [List.mem_singleton.mp h1] at h2; exact .inr h2
      · have cf : isRep (Cn (gal a ts) (2 * m)) i = false := by simpa using c
        have on : o.isSome = true := si.mpr cf
        rw [on]
        refine iteF ⟨⟨some (.int (i : Int)), v, ?_⟩, s3, se3.congr (fun x => ?_) (by lia)⟩
        · rw [reps_succ, if_neg c, List.append_nil]
        · rw [reps_succ, if_neg c, List.append_nil]
    rintro σ H3 ⟨⟨u, v, rfl⟩, s3, se3⟩
    refine hM _ _ ?_
    clear hM M
    refine ⟨_, rfl, _, _, rfl, ?_⟩
    have e : (if (1 : Int) > ((reps (2 * m) (Cn (gal a ts) (2 * m))).length : Int) then (1 : Int) else ((reps (2 * m) (Cn (gal a ts) (2 * m))).length : Int)) = ((rds (gal a ts) (2 * m)).length : Int) := by
      have one := rds_one (gal a ts) (2 * m)
      by_cases c : m = 0
      · subst c
        rfl
      · rw [rds_pos (by lia), List.length_map] at one ⊢
        rw [if_neg (by lia)]
    have := q H3 s3
    rw [<- e] at this
    exact this
theorem scLJoined : FnScope ["_law_turns_here", "_law_seen", "_law_wait", "_law_end", "_law_other"] ["_law_turns_here"] (defScope sLJoined) := ⟨rfl, rfl, rfl, by decide +kernel, rfl, by decide +kernel, by decide +kernel⟩
theorem d_ljoined (T : Txt K mg) (S : Src K mg "_law_joined" sLJoined ["_law_turns_here"]) : Def P w K mg base 1 "_law_joined" ["_law_turns_here"] spLJoined := by
  refine S.def scLJoined (fun vs H Q E h => ?_) (fun f cdv A outer s H vs Q E hr h => ?_)
  · obtain ⟨_, _, _, rfl, _⟩ := h; rfl
  · obtain ⟨lt, ts, m, rfl, hlt, PT, tl, m8, q⟩ := h
    refine ⟨_, pss_cons (ps_if (pt_cmpR (op_eqNilK K (units66 hr)) (pv 0) (pe_lst pa_nil) (nomark _)) (pss_one (ps_ret pe_bl)) pss_nil)
      (pss_cons (ps_set (i := 1) scLJoined.nd rfl (Or.inl rfl) (pe_disp (pps_cons pe_int pe_bl pps_nil) rfl rfl (by simp) (by decide)))
      (pss_cons (ps_set (i := 2) scLJoined.nd rfl (Or.inl rfl) (pe_lst (pa_cons pe_int pa_nil)))
      (pss_cons (ps_while PassesOwn.never (pt_cmpR (op_neNilK K (units66 hr)) (pv 2) (pe_lst pa_nil) (nomark _))
        (pss_cons (ps_set (i := 3) scLJoined.nd rfl (Or.inl rfl) (pe_bm0 PySem.F.plainAttrs_list PySem.F.slot_list_pop PySem.F.type_list_pop mt_pop (pv 2)))
        (pss_one (ps_for PassesOwn.never rfl (pi_seqK K .l (pe_lst (pa_cons (pe_ix (ix_listK K) (pv 0) (pv 3) (fun _ _ => rfl)) (pa_cons (pe_op op_xor (pv 3) pe_int) pa_nil)))) (pg_name (i := 4) scLJoined.nd rfl (Or.inl rfl))
          (pss_one (ps_if (pt_cmp (pc_dnotin (hu_of hr) (pv 4) (pv 1)) rfl)
            (pss_cons (ps_dput (hu_of hr) (pv 1) (pv 4) pe_bl rfl)
            (pss_one (ps_expr (pe_bm PySem.F.plainAttrs_list PySem.F.slot_list_append PySem.F.type_list_append mt_append (pv 2) (pa_cons (pv 4) pa_nil))))) pss_nil))))))
      (pss_one (ps_ret (pe_cmpR op_eq (pe_callB call_lenD (by rfl) T.len PySem.boot_len (pa_cons (pv 1) pa_nil)) (pe_callB (call_lenK K) (by rfl) T.len PySem.boot_len (pa_cons (pv 0) pa_nil)) (nomark _))))))), ?_⟩
    refine seq_abs fun M hM => ?_
    refine ⟨_, rfl, Nat.zero_le _, fun e0 he0 => ⟨lt, e0, _, rfl, rfl, SqL.of (Same.new he0 _ _ hlt), SqL.of upd_same, _, rfl, ?_⟩⟩
    have s0 := Same.new (o := HO.lst []) he0
    generalize upd H e0 (.lst []) = H0 at s0 ⊢
    by_cases c : m = 0
    · subst c
      have : ts = [] := List.length_eq_zero_iff.mp tl
      subst this
      exact iteT (q H0 true s0 ⟨fun _ x hx => absurd hx (Nat.not_lt_zero x), fun _ => rfl⟩)
    have ne : (ci ts).map V.int ≠ [] := fun z => by
      have := congrArg List.length z
      rw [List.length_map, ci_len, tl] at this
      exact c (by have : 2 * m = 0 := this; lia)
    rw [decide_eq_false ne]
    refine iteF (hM _ _ ?_)
    clear hM M
    refine seq_abs fun M hM => ?_
    refine fun sd hsd => ?_
    have s1 := Same.new (o := HO.dK []) hsd
    have h1 : (upd H0 sd (.dK [])) sd = some (.dK []) := upd_same
    generalize upd H0 sd (.dK []) = H1 at s1 h1 ⊢
    have sdH := none_of s0 hsd
    refine ⟨h1, [((.inl 0 : Key), V.bl true)], rfl, by show 1 <= 15; decide, ?_⟩
    have s2 : Same H (upd H1 sd (HO.dK (mergeK [] [((.inl 0 : Key), V.bl true)]))) := Same.put84 (s0.trans s1) sdH
    have h2 : (upd H1 sd (HO.dK (mergeK [] [((.inl 0 : Key), V.bl true)]))) sd = some (.dK (kvL [0])) := by rw [upd_same]; rfl
    generalize upd H1 sd (HO.dK (mergeK [] [((.inl 0 : Key), V.bl true)])) = H2 at s2 h2 ⊢
    refine hM _ _ ?_
    clear hM M h1 s1 s0
    try dsimp only [List.set]
    refine seq_abs fun M hM => ?_
    refine ⟨by show 1 <= sizeLine; decide, fun wt hwt => hM _ _ ?_⟩
    clear hM M
    have s3 := Same.new (o := HO.lst [.int 0]) hwt
    have h3 : (upd H2 wt (.lst [.int 0])) wt = some (.lst ((ci [0]).map V.int)) := upd_same
    have wtH := none_of s2 hwt
    have nws : wt ≠ sd := fun z => by rw [z, h2] at hwt; cases hwt
    replace h2 := s3 _ _ h2
    replace s3 := s2.trans s3
    generalize upd H2 wt (.lst [.int 0]) = H3 at s3 h2 h3 ⊢
    try dsimp only [List.set]
    refine ⟨fun k σ H' => ∃ L W, (∃ u v, σ = [some (.ref lt), some (.ref sd), some (.ref wt), u, v]) /\ Same H H' /\ H' sd = some (.dK (kvL L)) /\ H' wt = some (.lst ((ci W).map V.int)) /\ Spr ts m L W none /\ k + 2 * L.length = 4 * m + W.length /\ k <= 4 * m, ⟨4 * m - 1, [0], [0], ⟨_, _, rfl⟩, s3, h2, h3, ⟨by simp, by simp, fun x hx => by rw [List.mem_singleton.mp hx]; exact ⟨by lia, .refl 0⟩, fun x hx => hx, fun x hx nx => absurd hx nx⟩, by show 4 * m - 1 + 2 * 1 = 4 * m + 1; lia, by lia⟩, ?_⟩
    rintro k σ H4 ⟨L, W, ⟨u, v, rfl⟩, s4, hsd4, hwt4, sp, ek, k4⟩
    refine ⟨_, rfl, Nat.zero_le _, fun e1 he1 => ⟨wt, e1, _, rfl, rfl, SqL.of (Same.new he1 _ _ hwt4), SqL.of upd_same, _, rfl, ?_⟩⟩
    have s5 := Same.new (o := HO.lst []) he1
    replace hsd4 := s5 _ _ hsd4
    replace hwt4 := s5 _ _ hwt4
    replace s5 := s4.trans s5
    generalize upd H4 e1 (.lst []) = H5 at s5 hsd4 hwt4 ⊢
    by_cases cw : W = []
    · subst cw
      refine iteF ?_
      refine ⟨_, rfl, sd, kvL L, rfl, hsd4, _, rfl, lt, _, rfl, .inl (SqL.of (s5 _ _ hlt)), rfl, ?_⟩
      refine q H5 _ s5 ?_
      have ca := closed_all tl PT sp.nd sp.z0 sp.inn (fun x hx => (sp.cl x hx (fun z => nomatch z)).resolve_left (fun z => nomatch z))
      rw [decide_eq_true_iff, <- ca]
      have kl : (kvL L).length = L.length := by unfold kvL; rw [List.length_map]
      rw [kl, List.length_map, ci_len, tl]
      exact ⟨fun z => by injection z with z; lia, fun z => by rw [z]⟩
    obtain ⟨e, W', rfl⟩ := last_ci cw
    have wne : ((ci (W' ++ [e])).map V.int) ≠ [] := fun z => by
      have := congrArg List.length z
      rw [List.length_map, ci_len, List.length_append] at this
      exact Nat.succ_ne_zero _ this
    rw [show (true ^^ decide ((ci (W' ++ [e])).map V.int = [])) = true by rw [decide_eq_false wne]; rfl]
    have eL : e ∈ L := sp.sub e (by simp)
    obtain ⟨em, ej⟩ := sp.inn e eL
    refine iteT ⟨fun σ' H' => ∃ L W k', (∃ u v, σ' = [some (.ref lt), some (.ref sd), some (.ref wt), u, v]) /\ Same H H' /\ H' sd = some (.dK (kvL L)) /\ H' wt = some (.lst ((ci W).map V.int)) /\ Spr ts m L W none /\ k' + 2 * L.length = 4 * m + W.length /\ k' < k, ?_, ?_⟩
    · rintro σ' H' ⟨L2, W2, k', a1, a2, a3, a4, a5, a6, a7⟩
      exact ⟨k', a7, L2, W2, a1, a2, a3, a4, a5, a6, by lia⟩
    have la : ((ci (W' ++ [e])).map V.int)[((ci (W' ++ [e])).map V.int).length - 1]? = some (.int (e : Nat)) := by
      rw [ci_snoc, List.length_append, List.length_singleton, Nat.add_sub_cancel, List.getElem?_append_right (Nat.le_refl _), Nat.sub_self]
      rfl
    refine ⟨_, rfl, .inl ⟨rfl, _, SqL.of hwt4⟩, wt, _, _, rfl, rfl, hwt4, la, ?_⟩
    have ed : ((ci (W' ++ [e])).map V.int).dropLast = (ci W').map V.int := by rw [ci_snoc, List.dropLast_concat]
    rw [ed]
    have s6 := Same.put84 (o := HO.lst ((ci W').map V.int)) s5 wtH
    have h6 : (upd H5 wt (.lst ((ci W').map V.int))) wt = some (.lst ((ci W').map V.int)) := upd_same
    have d6 : (upd H5 wt (.lst ((ci W').map V.int))) sd = some (.dK (kvL L)) := by rw [upd_ne (Ne.symm nws)]; exact hsd4
    generalize upd H5 wt (.lst ((ci W').map V.int)) = H6 at s6 h6 d6 ⊢
    dsimp only [gName, List.set]
    have xe : Builtin.bitXor (e : Int) 1 = ((mate e : Nat) : Int) := xor_al (a := 1) (by lia) (.inr rfl)
    refine ⟨_, rfl, _, rfl, lt, _, _, _, rfl, rfl, SqL.of (s6 _ _ hlt), ci_at (by lia), _, rfl, _, _, rfl, rfl, by show 2 <= sizeLine; decide, fun g hg => ?_⟩
    have ngs : g ≠ sd := fun z => by rw [z, d6] at hg; cases hg
    have ngw : g ≠ wt := fun z => by rw [z, h6] at hg; cases hg
    have s7 := Same.new (o := HO.lst [.int ((fn ts e : Nat) : Int), .int (Builtin.bitXor (e : Int) 1)]) hg
    have h7 : (upd H6 g (.lst [.int ((fn ts e : Nat) : Int), .int (Builtin.bitXor (e : Int) 1)])) g = some (.lst ((ci [fn ts e, mate e]).map V.int)) := by rw [upd_same, xe]; rfl
    replace h6 := s7 _ _ h6
    replace d6 := s7 _ _ d6
    replace s7 := s6.trans s7
    generalize upd H6 g (.lst [.int ((fn ts e : Nat) : Int), .int (Builtin.bitXor (e : Int) 1)]) = H7 at s7 h6 d6 h7 ⊢
    have sp7 : Spr ts m L W' (some e) := ⟨sp.nd, sp.z0, sp.inn, fun x hx => sp.sub x (List.mem_append.mpr (.inl hx)), fun x hx nx => by
      by_cases xe : x = e
      · exact .inl (by rw [xe])
      · exact .inr ((sp.cl x hx (fun z => by
          rcases List.mem_append.mp z with z | z
          · exact nx z
          · exact xe (List.mem_singleton.mp z))).resolve_left (fun z => nomatch z))⟩
    have ek' : 4 * m + W'.length + 1 <= k + 2 * L.length := by
      rw [List.length_append, List.length_singleton] at ek
      lia
    have both : ∀ y ∈ [fn ts e, mate e], y < 2 * m /\ Jn ts y 0 := fun y hy => by
      rcases List.mem_cons.mp hy with rfl | hy
      · exact ⟨PT.lt e em, (Jn.turn (by lia)).symm.trans ej⟩
      · rw [List.mem_singleton.mp hy]
        exact ⟨mate_lt em, (Jn.mate e).symm.trans ej⟩
    refine ⟨g, rfl, ⟨_, SqL.of h7⟩, for_seq (k := .l) (K := K) (a := g) (xs := (ci [fn ts e, mate e]).map V.int) (fun j σ H' => (∃ z, σ = [some (.ref lt), some (.ref sd), some (.ref wt), some (.int (e : Int)), z]) /\ Same H H' /\ H' g = some (.lst ((ci [fn ts e, mate e]).map V.int)) /\ ∃ L W, H' sd = some (.dK (kvL L)) /\ H' wt = some (.lst ((ci W).map V.int)) /\ Spr ts m L W (some e) /\ (∀ x ∈ [fn ts e, mate e].take j, x ∈ L) /\ 4 * m + W.length + 1 <= k + 2 * L.length) ⟨⟨_, rfl⟩, s7, h7, L, W', d6, h6, sp7, (fun x hx => by simp at hx), ek'⟩ (fun j σ H' _ z => SqL.of z.2.2.1) ?_ ?_⟩
    · rintro j x σ H8 hxj ⟨⟨z, rfl⟩, s8, h8, L8, W8, d8, w8, sp8, al8, ek8⟩
      obtain ⟨y, ey, rfl⟩ := nat_item hxj
      obtain ⟨ym, yj⟩ := both y (List.mem_of_getElem? ey)
      dsimp only [gName, List.set]
      refine ⟨_, rfl, _, rfl, sd, _, rfl, DGet.k (k := .inl (y : Int)) d8, _, rfl, ?_⟩
      rw [kvL_is]
      by_cases yL : y ∈ L8
      · rw [decide_eq_true yL]
        refine iteF ⟨⟨_, rfl⟩, s8, h8, L8, W8, d8, w8, sp8, fun x hx => ?_, ek8⟩
        rw [take_succ_of ey] at hx
        rcases List.mem_append.mp hx with hx | hx
        · exact al8 x hx
        · rw [List.mem_singleton.mp hx]; exact yL
      · rw [decide_eq_false yL]
        have ll := sp8.len
        have kl : (kvL L8).length = L8.length := by unfold kvL; rw [List.length_map]
        have sp9 := sp8.add yL ym yj
        have ll9 := sp9.len
        rw [List.length_append, List.length_singleton] at ll9
        refine iteT ⟨_, rfl, _, rfl, sd, _, rfl, DPut.k (k := .inl (y : Int)) d8 (by rw [kl]; exact line84 (by lia)), ?_⟩
        rw [kvL_put yL]
        have s9 := Same.put84 (o := HO.dK (kvL (L8 ++ [y]))) s8 sdH
        have d9 : (upd H8 sd (.dK (kvL (L8 ++ [y])))) sd = some (.dK (kvL (L8 ++ [y]))) := upd_same
        have w9 : (upd H8 sd (.dK (kvL (L8 ++ [y])))) wt = some (.lst ((ci W8).map V.int)) := by rw [upd_ne nws]; exact w8
        have g9 : (upd H8 sd (.dK (kvL (L8 ++ [y])))) g = some (.lst ((ci [fn ts e, mate e]).map V.int)) := by rw [upd_ne ngs]; exact h8
        generalize upd H8 sd (.dK (kvL (L8 ++ [y]))) = H9 at s9 d9 w9 g9 ⊢
        have wl : W8.length <= 100 := by lia
        refine ⟨_, rfl, .inl ⟨rfl, _, SqL.of w9⟩, _, rfl, wt, _, _, rfl, rfl, w9, by rw [List.length_map, ci_len]; exact line84 (by lia), ⟨_, rfl⟩, Same.put84 s9 wtH, by rw [upd_ne ngw]; exact g9, L8 ++ [y], W8 ++ [y], by rw [upd_ne (Ne.symm nws)]; exact d9, by rw [upd_same, ci_snoc], sp9, fun x hx => ?_, by rw [List.length_append, List.length_append, List.length_singleton]; lia⟩
        rw [take_succ_of ey] at hx
        rcases List.mem_append.mp hx with hx | hx
        · exact List.mem_append.mpr (.inl (al8 x hx))
        · exact List.mem_append.mpr (.inr hx)
    · rintro σ H8 ⟨⟨z, rfl⟩, s8, h8, L8, W8, d8, w8, sp8, al8, ek8⟩
      have ll := sp8.len
      refine ⟨L8, W8, 4 * m + W8.length - 2 * L8.length, ⟨_, _, rfl⟩, s8, d8, w8, ⟨sp8.nd, sp8.z0, sp8.inn, sp8.sub, fun x hx nx => ?_⟩, by lia, by lia⟩
      rcases sp8.cl x hx nx with z | z
      · injection z with z
        rw [z]
        exact .inr ⟨al8 _ (by show _ ∈ [fn ts e, mate e].take 2; simp), al8 _ (by show _ ∈ [fn ts e, mate e].take 2; simp)⟩
      · exact .inr z
end
theorem pos58 : (0 : Int) < 10 ^ (58 : Int).toNat := by decide +kernel
theorem cut_take (xs : List V) {a : Nat} (h : a <= xs.length) : cutV xs none (some (a : Int)) = xs.take a := by
  unfold cutV
  rw [HT.sIx_nat, HT.sIx_none, List.drop_zero, Nat.sub_zero, Nat.min_eq_left h]
theorem cut_drop (xs : List V) {a : Nat} (h : a <= xs.length) : cutV xs (some (a : Int)) none = xs.drop a := by
  unfold cutV
  rw [HT.sIx_nat, HT.sIx_none, Nat.min_eq_left h, List.take_of_length_le (by rw [List.length_drop]; exact Nat.le_refl _)]
def prevI (ord : List Int) (a : Nat) : Nat := if a = 0 then ord.length - 1 else a - 1
def prevT (ord : List Int) (a : Nat) : Int := at0 ord (prevI ord a)
def oddT (ord : List Int) (a : Nat) (far : Int) (way : Int) : D0 :=
  if way = 2 then fi (prevT ord a) else if way = 3 then fi (ord.length + far) else if way = 4 then fi (-1 - far) else
    (if far % 5 = 0 then .fl (.str (toString (at0 ord a))) else if far % 5 = 1 then .fl .non else if far % 5 = 2 then .ls [.int 0] else if far % 5 = 3 then .tu [.int 0] else .di)
def badT (ord : List Int) (cell : Int) : D1 :=
  let m := ord.length
  let way := cell % 13
  let a := (cell / 13 % (max m 1 : Nat)).toNat
  if way = 0 \/ (m = 0 /\ way < 8) then .ll ((ord ++ [(m : Int)]).map fi)
  else if way = 1 then .ll ((ord.take a ++ ord.drop (a + 1)).map fi)
  else if way = 5 then .ll (ord.map fun k => if k < 2 then .fl (.bl (decide (k = 1))) else fi k)
  else if way = 7 then .ll ((ord ++ [at0 ord a, prevT ord a]).map fi)
  else if way = 8 then .ll ((ups 18).map fi)
  else if way = 9 then .ob (.fl .non)
  else if way = 10 then .ob (.fl (.str "01"))
  else if way = 11 then .ob .di
  else if way = 12 then .ob (.fl (.int 0))
  else .ll ((ord.take a).map fi ++ [oddT ord a (cell / 192 % 10 ^ 58) way] ++ (ord.drop (a + 1)).map fi)
theorem no_len58 {ns : List Int} {m : Nat} (h : ns.length ≠ m) : ¬ ns.Perm (ups m) := fun z => h (by rw [z.length_eq, ups_len]; lia)
theorem no_nd {ns : List Int} {m : Nat} (h : ¬ ns.Nodup) : ¬ ns.Perm (ups m) := fun z => h (z.nodup_iff.mpr ((ups_up _).imp fun h => by lia))
theorem at0_get {ord : List Int} {a : Nat} (h : a < ord.length) : at0 ord (a : Int) = ord[a] := by
  unfold at0
  rw [Int.toNat_natCast, List.getD_eq_getElem?_getD, List.getElem?_eq_getElem h]
  rfl
theorem bad_is {ord : List Int} {cell : Int} {m k : Nat} (pm : ord.Perm (ups ord.length)) (om : ord.length = 2 * m) (m8 : m <= 8) (k8 : k <= 8) : IsBad (2 * k) (badT ord cell) := by
  have w0 := mod_in cell 13 (by decide)
  have nd : ord.Nodup := pm.nodup_iff.mpr ((ups_up _).imp fun h => by lia)
  unfold badT
  dsimp only
  generalize cell % 13 = way at w0
  split
  · exact ⟨by rw [List.length_map, List.length_append]; show ord.length + 1 <= 20; lia, .inr ⟨_, rfl, no_len58 (by rw [List.length_append]; show ord.length + 1 ≠ _; lia)⟩⟩
  rename_i h0
  have mp : way < 8 -> 1 <= ord.length := fun h => by
    rcases Nat.eq_zero_or_pos ord.length with z | z
    · exact absurd (.inr ⟨z, h⟩) h0
    · exact z
  have am2 : way < 8 -> (cell / 13 % ((max ord.length 1 : Nat) : Int)).toNat < ord.length := fun h => by
    have m1 := mp h
    have := mod_in (cell / 13) ((max ord.length 1 : Nat) : Int) (by lia)
    lia
  generalize (cell / 13 % ((max ord.length 1 : Nat) : Int)).toNat = a at am2
  split
  · have := am2 (by lia)
    exact ⟨by rw [List.length_map, List.length_append, List.length_take, List.length_drop]; lia, .inr ⟨_, rfl, no_len58 (by rw [List.length_append, List.length_take, List.length_drop]; lia)⟩⟩
  split
  · refine ⟨by rw [List.length_map]; lia, .inl ?_⟩
    have z : (0 : Int) ∈ ord := pm.mem_iff.mpr (mem_ups.mpr ⟨by decide, by have := mp (by lia); lia⟩)
    exact ⟨_, List.mem_map_of_mem z, fun i e => by rw [if_pos (by decide)] at e; unfold fi at e; cases e⟩
  split
  · have al := am2 (by lia)
    refine ⟨by rw [List.length_map, List.length_append]; show ord.length + 2 <= 20; lia, .inr ⟨_, rfl, no_nd fun z => ?_⟩⟩
    have h1 : at0 ord (a : Int) ∈ ord := by rw [at0_get al]; exact List.getElem_mem al
    exact (List.nodup_append.mp z).2.2 _ h1 _ List.mem_cons_self rfl
  split
  · exact ⟨by rw [List.length_map, ups_len]; decide, .inr ⟨_, rfl, no_len58 (by rw [ups_len]; show 18 ≠ 2 * k; lia)⟩⟩
  split
  · trivial
  split
  · trivial
  split
  · trivial
  split
  · trivial
  have wl : way < 8 := by lia
  have al := am2 wl
  have m1 := mp wl
  refine ⟨by rw [List.length_append, List.length_append, List.length_map, List.length_map, List.length_take, List.length_drop]; show min a ord.length + 1 + (ord.length - (a + 1)) <= 20; lia, ?_⟩
  have ff : 0 <= cell / 192 % 10 ^ 58 := (mod_in (cell / 192) (10 ^ 58) (by decide)).1
  generalize cell / 192 % 10 ^ 58 = far at ff
  have many : ∀ x : Int, (x < 0 \/ (ord.length : Int) <= x) -> ∃ ns : List Int, (ord.take a).map fi ++ [fi x] ++ (ord.drop (a + 1)).map fi = ns.map fi /\ ¬ ns.Perm (ups ((2 * k : Nat) : Int)) := fun x hx => by
    refine ⟨ord.take a ++ [x] ++ ord.drop (a + 1), by rw [List.map_append, List.map_append]; rfl, fun z => ?_⟩
    have h1 := mem_ups.mp (z.mem_iff.mp (List.mem_append_left _ (List.mem_append_right _ (List.mem_singleton.mpr rfl))))
    have h2 := z.length_eq
    rw [List.length_append, List.length_append, List.length_take, List.length_drop, ups_len, List.length_singleton] at h2
    lia
  have odd : ∀ d : D0, (∀ i, d ≠ fi i) -> ∃ e ∈ (ord.take a).map fi ++ [d] ++ (ord.drop (a + 1)).map fi, ∀ i, e ≠ fi i := fun d hd => ⟨d, List.mem_append_left _ (List.mem_append_right _ (List.mem_singleton.mpr rfl)), hd⟩
  unfold oddT
  split
  · refine .inr ⟨ord.take a ++ [prevT ord a] ++ ord.drop (a + 1), by rw [List.map_append, List.map_append]; rfl, no_nd fun z => ?_⟩
    have pl : prevI ord a < ord.length := by unfold prevI; split <;> lia
    have pne : prevI ord a ≠ a := by unfold prevI; split <;> lia
    have pe : prevT ord a = ord[prevI ord a] := at0_get pl
    rw [pe] at z
    obtain ⟨z1, _, z3⟩ := List.nodup_append.mp z
    obtain ⟨_, _, z4⟩ := List.nodup_append.mp z1
    by_cases c : prevI ord a < a
    · exact z4 (ord[prevI ord a]) (List.mem_take_iff_getElem.mpr ⟨prevI ord a, by lia, rfl⟩) _ (List.mem_singleton.mpr rfl) rfl
    · refine z3 (ord[prevI ord a]) (List.mem_append_right _ (List.mem_singleton.mpr rfl)) _ ?_ rfl
      refine List.mem_drop_iff_getElem.mpr ⟨prevI ord a - (a + 1), by lia, ?_⟩
      congr 1
      lia
  split
  · exact .inr (many _ (.inr (by lia)))
  split
  · exact .inr (many _ (.inl (by lia)))
  refine .inl (odd _ fun i e => ?_)
  unfold fi at e
  split at e
  · cases e
  split at e
  · cases e
  split at e
  · cases e
  split at e <;> cases e
def spBad (K : W.Frag) : Sp := fun vs H Q _ => ∃ (o : Addr) (ord : List Int) (cell : Int), vs = [.ref o, .int cell] /\ H o = some (.lst (ord.map V.int)) /\ ord.length <= 16 /\ ord.Perm (ups ord.length) /\ ∀ x H', Same H H' -> Hold1 H' x (badT ord cell) -> Q x H'
theorem ndk1 : (["_law_end"] : List Str).Nodup := by decide +kernel
theorem flat_ints (ns : List Int) : ∀ z ∈ ns.map V.int, flatV z = true := fun z hz => by
  obtain ⟨i, _, rfl⟩ := List.mem_map.mp hz
  rfl
theorem at_ord {ord : List Int} {a : Nat} (h : a < ord.length) : atI (ord.map V.int) (a : Int) = some (.int (at0 ord a)) := by
  refine atI_nat ?_
  rw [List.getElem?_map, List.getElem?_eq_getElem h]
  unfold at0
  rw [Int.toNat_natCast, List.getD_eq_getElem?_getD, List.getElem?_eq_getElem h]
  rfl
theorem hold_ll {H : Hp} {p : Addr} {ns : List Int} (h : H p = some (.lst (ns.map V.int))) : Hold1 H (.ref p) (.ll (ns.map fi)) := ⟨p, _, rfl, h, pair_fi H ns⟩
theorem vT {i j : Int} (h : i = j) : decide (V.int i = V.int j) = true := decide_eq_true (by rw [h])
theorem vF {i j : Int} (h : i ≠ j) : decide (V.int i = V.int j) = false := decide_eq_false fun z => h (by injection z)
theorem log_small {k : Int} (h : k.natAbs < 64) : k.natAbs.log2 < 1920 := by
  by_cases z : k.natAbs = 0
  · rw [z]; decide
  · exact Nat.lt_trans ((Nat.log2_lt z).mpr (show k.natAbs < 2 ^ 6 from h)) (by decide)
def boT (k : Int) : V := if k < 2 then .bl (decide (k = 1)) else .int k
theorem pair_bo (H : Hp) : ∀ ns : List Int, Paired (Hold0 H) (ns.map boT) (ns.map fun k => if k < 2 then .fl (.bl (decide (k = 1))) else fi k)
  | [] => .nil
  | i :: ns => .cons (by
      show Hold0 H (boT i) (if i < 2 then .fl (.bl (decide (i = 1))) else fi i)
      unfold boT
      by_cases c : i < 2
      · rw [if_pos c, if_pos c]; exact ⟨rfl, rfl⟩
      · rw [if_neg c, if_neg c]; exact ⟨rfl, rfl⟩) (pair_bo H ns)
theorem hold_upd {H : Hp} {x : V} {d : D0} {p : Addr} {o : HO} (h : Hold0 H x d) (n : x ≠ .ref p) : Hold0 (upd H p o) x d := by
  cases d with
  | fl v => exact h
  | di => obtain ⟨a, rfl, h⟩ := h; exact ⟨a, rfl, by rw [upd_ne fun z => n (by rw [z])]; exact h⟩
  | tu xs => obtain ⟨a, rfl, h, f⟩ := h; exact ⟨a, rfl, by rw [upd_ne fun z => n (by rw [z])]; exact h, f⟩
  | ls xs => obtain ⟨a, rfl, h, f⟩ := h; exact ⟨a, rfl, by rw [upd_ne fun z => n (by rw [z])]; exact h, f⟩
theorem get_int' {ks : List Int} {i : Nat} {x : V} (hx : (ks.map V.int)[i]? = some x) : ∃ k, ks[i]? = some k /\ V.int k = x := by
  rw [List.getElem?_map] at hx
  cases e : ks[i]? with
  | none => rw [e] at hx; simp at hx
  | some k => rw [e] at hx; simp at hx; exact ⟨k, rfl, hx⟩
theorem pair_app {α β : Type} {F : α -> β -> Prop} : ∀ {l₁ m₁ : List α} {l₂ m₂ : List β}, Paired F l₁ l₂ -> Paired F m₁ m₂ -> Paired F (l₁ ++ m₁) (l₂ ++ m₂)
  | _, _, _, _, .nil, h => h
  | _, _, _, _, .cons r t, h => .cons r (pair_app t h)
theorem at_prev {ord : List Int} {a : Nat} (h : a < ord.length) : atI (ord.map V.int) ((a : Int) - 1) = some (.int (prevT ord a)) := by
  have pl : prevI ord a < ord.length := by unfold prevI; split <;> lia
  unfold prevT
  rw [at0_get pl]
  unfold atI ixN
  by_cases c : a = 0
  · subst c
    have e : prevI ord 0 = ord.length - 1 := rfl
    rw [if_neg (by decide), List.length_map, if_pos (by lia), show (((0 : Nat) : Int) - 1 + (ord.length : Int)).toNat = prevI ord 0 by rw [e]; lia]
    show (ord.map V.int)[prevI ord 0]? = _
    rw [List.getElem?_map, List.getElem?_eq_getElem pl]
    rfl
  · have e : prevI ord a = a - 1 := by unfold prevI; rw [if_neg c]
    rw [if_pos (by lia), List.length_map, if_pos (by lia), show ((a : Int) - 1).toNat = prevI ord a by rw [e]; lia]
    show (ord.map V.int)[prevI ord a]? = _
    rw [List.getElem?_map, List.getElem?_eq_getElem pl]
    rfl
theorem hold_some {H : Hp} {x : V} {d : D0} (h : Hold0 H x d) : ∀ p, x = .ref p -> ∃ o, H p = some o := fun p e => by
  cases d with
  | fl v =>
    obtain ⟨rfl, f⟩ := h
    rw [e] at f
    cases f
  | di => obtain ⟨a, e2, h⟩ := h; rw [e] at e2; cases e2; exact ⟨_, h⟩
  | tu xs => obtain ⟨a, e2, h, _⟩ := h; rw [e] at e2; cases e2; exact ⟨_, h⟩
  | ls xs => obtain ⟨a, e2, h, _⟩ := h; rw [e] at e2; cases e2; exact ⟨_, h⟩
theorem put_fr {H H2 : Hp} {g : Addr} {o : HO} (s : Same H H2) (h : H g = none) : Same H (upd H2 g o) := fun b u e => by rw [upd_ne (ne_of_none e h)]; exact s b u e
section
variable {P : Program} {w : World} {K : W.Frag} {mg : Str -> Option Value} {base : Heap}
seal PSs PS PE PI PA PT PG
theorem scBad : FnScope ["_law_turns_here", "_law_cell", "_law_way", "_law_many", "_law_at_here", "_law_far", "_law_odd", "_law_thing"] ["_law_turns_here", "_law_cell"] (defScope sBad) := ⟨rfl, rfl, rfl, by decide +kernel, rfl, by decide +kernel, by decide +kernel⟩
theorem d_bad (T : Txt K mg) (ts : mg "str" = none) (bs : bootBuiltins "str" = some (.type "str")) (S : Src K mg "_law_bad" sBad ["_law_turns_here", "_law_cell"]) : Def P w K mg base 1 "_law_bad" ["_law_turns_here", "_law_cell"] (spBad K) := by
  refine S.def scBad (fun vs H Q E h => ?_) (fun f cdv A outer s H vs Q E hr h => ?_)
  · obtain ⟨_, _, _, rfl, _⟩ := h; rfl
  · obtain ⟨o, ord, cell, rfl, ho, l8, pm, q⟩ := h
    refine ⟨_, pss_cons (ps_set (i := 2) scBad.nd rfl (Or.inl rfl) (pe_op op_mod (pv 1) pe_int))
      (pss_cons (ps_set (i := 3) scBad.nd rfl (Or.inl rfl) (pe_callB (call_lenK K) (by rfl) T.len PySem.boot_len (pa_cons (pv 0) pa_nil)))
      (pss_cons (ps_if (PW.pt (pw_or (pt_cmpR op_eq (pv 2) pe_int (nomark _)) (pw_or1 (PW.pt (pw_and (pt_cmpR op_eq (pv 3) pe_int (nomark _)) (pw_and1 (pt_cmpR op_lt (pv 2) pe_int (nomark _)))))))) (pss_one (ps_ret (pe_op op_cat (pv 0) (pe_lst (pa_cons (pv 3) pa_nil))))) pss_nil)
      (pss_cons (ps_set (i := 4) scBad.nd rfl (Or.inl rfl) (pe_op op_mod (pe_op op_fdiv (pv 1) pe_int) (pe_callB (call_max2 rfl) (by rfl) T.max boot_max' (pa_cons (pv 3) (pa_cons pe_int pa_nil)))))
      (pss_cons (ps_if (pt_cmpR op_eq (pv 2) pe_int (nomark _)) (pss_one (ps_ret (pe_op op_cat (pe_slice (sl_listK K) (pv 0) po_none (po_some (pv 4))) (pe_slice (sl_listK K) (pv 0) (po_some (pe_op op_add (pv 4) pe_int)) po_none)))) pss_nil)
      (pss_cons (ps_if (pt_cmpR op_eq (pv 2) pe_int (nomark _)) (pss_one (ps_ret (pe_comp (N' := ["_law_end"]) (fr := [none]) (compOk_of (by rfl)) rfl (pi_seqK K .l (pv 0)) (fun _ _ _ _ => pg_name (i := 0) ndk1 rfl (Or.inl rfl) (Or.inr rfl)) (fun _ _ _ _ => pifs_nil) (fun _ _ _ _ => pe_ix (r := rIxL K) (ix_listK K) (pe_lst (pa_cons (pv 0) (pa_cons (pe_cmpR op_eq (pv 0) pe_int (nomark _)) pa_nil))) (pe_callTy call_intB rfl T.int boot_int' (pa_cons (pe_cmpR op_lt (pv 0) pe_int (nomark _)) pa_nil)) (fun _ _ => rfl))))) pss_nil)
      (pss_cons (ps_if (pt_cmpR op_eq (pv 2) pe_int (nomark _)) (pss_one (ps_ret (pe_op op_cat (pv 0) (pe_lst (pa_cons (pe_ix (ix_listK K) (pv 0) (pv 4) (fun _ _ => rfl)) (pa_cons (pe_ix (ix_listK K) (pv 0) (pe_op op_sub (pv 4) pe_int) (fun _ _ => rfl)) pa_nil)))))) pss_nil)
      (pss_cons (ps_if (pt_cmpR op_gt (pv 2) pe_int (nomark _)) (pss_one (ps_ret (pe_ix (ix_listK K) (pe_lst (pa_cons (pe_callTy (call_list_rng rfl) rfl T.list boot_list' (pa_cons (pe_callTy call_range1 rfl T.range boot_range' (pa_cons pe_int pa_nil)) pa_nil)) (pa_cons pe_non (pa_cons pe_str (pa_cons pe_dict0 (pa_cons pe_int pa_nil)))))) (pe_op op_sub (pv 2) pe_int) (fun _ _ => rfl)))) pss_nil)
      (pss_cons (ps_set (i := 5) scBad.nd rfl (Or.inl rfl) (pe_op op_mod (pe_op op_fdiv (pv 1) pe_int) (pe_op op_pow pe_int pe_int)))
      (pss_cons (ps_set (i := 6) scBad.nd rfl (Or.inl rfl) (pe_ix (ix_listK K) (pe_lst (pa_cons (pe_callTy call_str_int rfl ts bs (pa_cons (pe_ix (ix_listK K) (pv 0) (pv 4) (fun _ _ => rfl)) pa_nil)) (pa_cons pe_non (pa_cons (pe_lst (pa_cons pe_int pa_nil)) (pa_cons (pe_tup (pa_cons pe_int pa_nil)) (pa_cons pe_dict0 pa_nil)))))) (pe_op op_mod (pv 5) pe_int) (fun _ _ => rfl)))
      (pss_cons (ps_set (i := 7) scBad.nd rfl (Or.inl rfl) (pe_dget (hu_of hr) (pe_disp (pps_cons pe_int (pe_ix (ix_listK K) (pv 0) (pe_op op_sub (pv 4) pe_int) (fun _ _ => rfl)) (pps_cons pe_int (pe_op op_add (pv 3) (pv 5)) (pps_cons pe_int (pe_op op_sub (pe_un un_neg pe_int) (pv 5)) (pps_cons pe_int (pv 6) pps_nil)))) rfl rfl (by simp) (by decide)) (pv 2) (fun _ _ => rfl)))
      (pss_one (ps_ret (pe_op op_cat (pe_op op_cat (pe_slice (sl_listK K) (pv 0) po_none (po_some (pv 4))) (pe_lst (pa_cons (pv 7) pa_nil))) (pe_slice (sl_listK K) (pv 0) (po_some (pe_op op_add (pv 4) pe_int)) po_none)))))))))))))), ?_⟩
    have ho1 : SqL K H o (ord.map V.int) := SqL.of ho
    have sz : ∀ k : Nat, k <= 40 -> k <= sizeLine := fun k hk => Nat.le_trans hk (by decide)
    refine seq_abs fun M hM => ?_
    refine ⟨_, rfl, _, _, rfl, rfl, (by show (0 : Int) < 13; decide), ?_⟩
    show M [some (.ref o), some (.int cell), some (.int (cell % 13)), none, none, none, none, none] H
    refine hM _ _ ?_
    clear hM M
    refine seq_abs fun M hM => ?_
    refine ⟨_, rfl, o, _, rfl, .inl ho1, ?_⟩
    show gName 3 (V.int ((ord.map V.int).length : Int)) _ _ _
    rw [List.length_map]
    show M [some (.ref o), some (.int cell), some (.int (cell % 13)), some (.int (ord.length : Int)), none, none, none, none] H
    refine hM _ _ ?_
    clear hM M
    have w0 := mod_in cell 13 (by decide)
    unfold badT at q
    dsimp only at q
    generalize cell % 13 = way at w0 q ⊢
    refine seq_abs fun M hM => ?_
    by_cases c0 : way = 0 \/ (ord.length = 0 /\ way < 8)
    · rw [if_pos c0] at q
      clear hM
      have fin : ∀ D : Ends, D.rt = Q -> (tRet (tOp rCat (tVar 0) (tLst (tCons (tVar 3) tNil)))) D [some (.ref o), some (.int cell), some (.int way), some (.int (ord.length : Int)), none, none, none, none] H := fun D hD => by
        refine ⟨_, rfl, _, rfl, by show 1 <= sizeLine; decide, fun l hl => ?_⟩
        have s1 := Same.new (o := HO.lst [.int (ord.length : Int)]) hl
        refine ⟨o, l, _, _, rfl, rfl, s1 _ _ ho, upd_same, by rw [List.length_map]; exact sz _ (show ord.length + 1 <= 40 by lia), fun p hp => ?_⟩
        rw [hD]
        refine q _ _ (s1.trans (Same.new hp)) (hold_ll ?_)
        rw [upd_same, List.map_append]
        rfl
      by_cases cw : way = 0
      · refine ⟨_, rfl, rfl, _, rfl, ?_⟩
        rw [vT cw]
        exact iteT (fin _ rfl)
      · obtain ⟨m0, w8⟩ := c0.resolve_left cw
        refine ⟨_, rfl, rfl, _, rfl, ?_⟩
        rw [vF cw]
        refine iteF ⟨_, rfl, rfl, _, rfl, ?_⟩
        rw [vT (show (ord.length : Int) = 0 by lia)]
        refine iteT ⟨_, rfl, _, _, rfl, rfl, _, rfl, ?_⟩
        rw [decide_eq_true w8]
        exact iteT (fin _ rfl)
    rw [if_neg c0] at q
    have cw : way ≠ 0 := fun z => c0 (.inl z)
    have go : M [some (.ref o), some (.int cell), some (.int way), some (.int (ord.length : Int)), none, none, none, none] H := hM _ _ (by
      clear hM
      have mp : way < 8 -> 1 <= ord.length := fun h => by
        rcases Nat.eq_zero_or_pos ord.length with z | z
        · exact absurd (.inr ⟨z, h⟩) c0
        · exact z
      refine seq_abs fun M hM => ?_
      have mx : (if (1 : Int) > (ord.length : Int) then (1 : Int) else (ord.length : Int)) = ((max ord.length 1 : Nat) : Int) := by
        split <;> lia
      refine ⟨_, rfl, _, _, rfl, rfl, ⟨by decide, by decide⟩, _, rfl, _, _, rfl, _, _, rfl, rfl, ?_, ?_⟩
      · show (0 : Int) < (if (1 : Int) > (ord.length : Int) then (1 : Int) else (ord.length : Int))
        rw [mx]
        lia
      show gName 4 (V.int (cell / 13 % (if (1 : Int) > (ord.length : Int) then (1 : Int) else (ord.length : Int)))) _ _ _
      rw [mx]
      have ab := mod_in (cell / 13) ((max ord.length 1 : Nat) : Int) (by lia)
      obtain ⟨a, ea⟩ := Int.eq_ofNat_of_zero_le ab.1
      have al : way < 8 -> a < ord.length := fun h => by
        have := mp h
        lia
      have ea2 : (cell / 13 % ((max ord.length 1 : Nat) : Int)).toNat = a := by lia
      rw [ea2] at q
      rw [ea]
      refine hM _ _ ?_
      clear hM M
      clear ea2 ea ab mx
      try dsimp only [List.set]
      have eT : way < 8 -> cutV (ord.map V.int) none (some (a : Int)) = (ord.take a).map V.int := fun h => by
        rw [cut_take _ (by rw [List.length_map]; exact Nat.le_of_lt (al h)), List.map_take]
      have eD : way < 8 -> cutV (ord.map V.int) (some (a : Int)) none = (ord.drop a).map V.int := fun h => by
        rw [cut_drop _ (by rw [List.length_map]; exact Nat.le_of_lt (al h)), List.map_drop]
      have eD1 : way < 8 -> cutV (ord.map V.int) (some ((a : Int) + 1)) none = (ord.drop (a + 1)).map V.int := fun h => by
        rw [show (a : Int) + 1 = ((a + 1 : Nat) : Int) from rfl, cut_drop _ (by rw [List.length_map]; exact al h), List.map_drop]
      refine seq_abs fun M hM => ?_
      refine ⟨_, rfl, rfl, _, rfl, ?_⟩
      by_cases c1 : way = 1
      · rw [vT c1]
        rw [if_pos c1] at q
        have h8 : way < 8 := by lia
        refine iteT ⟨_, rfl, _, rfl, _, rfl, o, _, rfl, ho1, fun p1 hp1 => ?_⟩
        rw [eT h8]
        have s1 := Same.new (o := HO.lst ((ord.take a).map V.int)) hp1
        have h1 : (upd H p1 (.lst ((ord.take a).map V.int))) p1 = some (.lst ((ord.take a).map V.int)) := upd_same
        generalize upd H p1 (.lst ((ord.take a).map V.int)) = H1 at s1 h1 ⊢
        refine ⟨_, rfl, _, rfl, _, _, rfl, rfl, _, rfl, o, _, rfl, SqL.of (s1 _ _ ho), fun p2 hp2 => ?_⟩
        rw [eD1 h8]
        have s2 := Same.new (o := HO.lst ((ord.drop (a + 1)).map V.int)) hp2
        refine ⟨p1, p2, _, _, rfl, rfl, s2 _ _ h1, upd_same, ?_, fun p3 hp3 => ?_⟩
        · rw [List.length_map, List.length_map, List.length_take, List.length_drop]
          exact sz _ (by lia)
        refine q _ _ (s1.trans (s2.trans (Same.new hp3))) (hold_ll ?_)
        rw [upd_same, List.map_append]
      rw [vF c1]
      rw [if_neg c1] at q
      refine iteF (hM _ _ ?_)
      clear hM M
      refine seq_abs fun M hM => ?_
      refine ⟨_, rfl, rfl, _, rfl, ?_⟩
      by_cases c5 : way = 5
      · rw [vT c5]
        rw [if_pos c5] at q
        refine iteT ⟨_, rfl, o, rfl, ⟨_, ho1⟩, comp_seq (k := .l) (a := o) (xs := ord.map V.int) (fun σ => ∃ v, σ = [v]) (fun i ys H' => Same H H' /\ ys = (ord.take i).map boT) ⟨_, rfl⟩ ⟨Same.refl H, rfl⟩ (Nat.lt_of_le_of_lt (show (ord.map V.int).length <= 20 by rw [List.length_map]; lia) (by decide)) (fun i ys H' _ z => SqL.of (z.1 _ _ ho)) ?_ ?_⟩
        · rintro i x ys σ H' N hx ⟨u, rfl⟩ ⟨s1, rfl⟩ hN
          obtain ⟨k, ek, rfl⟩ := get_int' hx
          dsimp only [gName, List.set]
          refine yesT ⟨_, rfl, _, rfl, rfl, by show 2 <= sizeLine; decide, fun l hl => ?_⟩
          have s2 := Same.new (o := HO.lst [.int k, .bl (decide (V.int k = V.int 1))]) hl
          have h2 : (upd H' l (.lst [.int k, .bl (decide (V.int k = V.int 1))])) l = some (.lst [.int k, .bl (decide (V.int k = V.int 1))]) := upd_same
          generalize upd H' l (.lst [.int k, .bl (decide (V.int k = V.int 1))]) = H2 at s2 h2 ⊢
          refine ⟨_, rfl, _, _, rfl, rfl, decide (k < 2), rfl, l, _, _, boT k, rfl, rfl, SqL.of h2, ?_, ?_⟩
          · unfold boT
            by_cases ck : k < 2
            · rw [decide_eq_true ck, if_pos ck, if_pos rfl]
              have e : decide (V.int k = V.int 1) = decide (k = 1) := by
                by_cases z : k = 1
                · rw [vT z, decide_eq_true z]
                · rw [vF z, decide_eq_false z]
              rw [e]
              exact atI_nat (j := 1) rfl
            · rw [decide_eq_false ck, if_neg ck, if_neg (by decide)]
              exact atI_nat (j := 0) rfl
          · refine hN _ _ _ ⟨_, rfl⟩ ⟨s1.trans s2, ?_⟩ (by simp)
            rw [take_succ_of ek, List.map_append]
            rfl
        · rintro ys H' ⟨s1, rfl⟩ p hp
          rw [List.length_map, List.take_length]
          exact q _ _ (s1.trans (Same.new hp)) ⟨p, _, rfl, upd_same, pair_bo _ _⟩
      rw [vF c5]
      rw [if_neg c5] at q
      refine iteF (hM _ _ ?_)
      clear hM M
      have apv : way < 8 -> atI (ord.map V.int) ((a : Int) - 1) = some (.int (prevT ord a)) := fun h => at_prev (al h)
      refine seq_abs fun M hM => ?_
      refine ⟨_, rfl, rfl, _, rfl, ?_⟩
      by_cases c6 : way = 7
      · rw [vT c6]
        rw [if_pos c6] at q
        have h8 : way < 8 := by lia
        refine iteT ⟨_, rfl, _, rfl, _, rfl, o, _, _, _, rfl, rfl, ho1, at_ord (al h8), _, rfl, _, rfl, _, _, rfl, rfl, o, _, _, _, rfl, rfl, ho1, apv h8, by show 2 <= sizeLine; decide, fun p1 hp1 => ?_⟩
        have s1 := Same.new (o := HO.lst [.int (at0 ord a), .int (prevT ord a)]) hp1
        refine ⟨o, p1, _, _, rfl, rfl, s1 _ _ ho, upd_same, by rw [List.length_map]; exact sz _ (show ord.length + 2 <= 40 by lia), fun p2 hp2 => ?_⟩
        refine q _ _ (s1.trans (Same.new hp2)) (hold_ll ?_)
        rw [upd_same, List.map_append]
        rfl
      rw [vF c6]
      rw [if_neg c6] at q
      refine iteF (hM _ _ ?_)
      clear hM M
      refine seq_abs fun M hM => ?_
      refine ⟨_, rfl, _, _, rfl, rfl, _, rfl, ?_⟩
      by_cases c7 : way > 7
      · rw [decide_eq_true (show (7 : Int) < way from c7)]
        refine iteT ⟨18, rfl, fun p0 hp0 => ⟨p0, 18, rfl, upd_same, by decide, fun l0 hl0 => ?_⟩⟩
        have s3 := (Same.new (o := HO.rng 0 18) hp0).trans (Same.new (o := HO.lst (upN 18)) hl0)
        have h3 : (upd (upd H p0 (.rng 0 18)) l0 (.lst (upN 18))) l0 = some (.lst ((ups 18).map V.int)) := by rw [upd_same, upN_ups]; rfl
        generalize upd (upd H p0 (.rng 0 18)) l0 (.lst (upN 18)) = H3 at s3 h3 ⊢
        refine fun d hd => ?_
        have s4 := Same.new (o := HO.dK []) hd
        have h4 : (upd H3 d (.dK [])) d = some (.dK []) := upd_same
        replace h3 := s4 _ _ h3
        replace s4 := s3.trans s4
        generalize upd H3 d (.dK []) = H4 at s4 h3 h4 ⊢
        refine ⟨by show 5 <= sizeLine; decide, fun l hl => ?_⟩
        have s5 := Same.new (o := HO.lst [.ref l0, .non, .str "01", .ref d, .int 0]) hl
        have h5 : (upd H4 l (.lst [.ref l0, .non, .str "01", .ref d, .int 0])) l = some (.lst [.ref l0, .non, .str "01", .ref d, .int 0]) := upd_same
        replace h3 := s5 _ _ h3
        replace h4 := s5 _ _ h4
        replace s5 := s4.trans s5
        generalize upd H4 l (.lst [.ref l0, .non, .str "01", .ref d, .int 0]) = H5 at s5 h3 h4 h5 ⊢
        have w4 : way = 8 \/ way = 9 \/ way = 10 \/ way = 11 \/ way = 12 := by lia
        rcases w4 with rfl | rfl | rfl | rfl | rfl
        · exact ⟨_, rfl, _, _, rfl, rfl, l, _, _, _, rfl, rfl, SqL.of h5, atI_nat (j := 0) rfl, q _ _ s5 (hold_ll h3)⟩
        · exact ⟨_, rfl, _, _, rfl, rfl, l, _, _, _, rfl, rfl, SqL.of h5, atI_nat (j := 1) rfl, q _ _ s5 ⟨rfl, rfl⟩⟩
        · exact ⟨_, rfl, _, _, rfl, rfl, l, _, _, _, rfl, rfl, SqL.of h5, atI_nat (j := 2) rfl, q _ _ s5 ⟨rfl, rfl⟩⟩
        · exact ⟨_, rfl, _, _, rfl, rfl, l, _, _, _, rfl, rfl, SqL.of h5, atI_nat (j := 3) rfl, q _ _ s5 ⟨d, rfl, h4⟩⟩
        · exact ⟨_, rfl, _, _, rfl, rfl, l, _, _, _, rfl, rfl, SqL.of h5, atI_nat (j := 4) rfl, q _ _ s5 ⟨rfl, rfl⟩⟩
      rw [decide_eq_false (show ¬ (7 : Int) < way from c7)]
      have h8 : way < 8 := by lia
      have al := al h8
      have eT := eT h8
      have eD1 := eD1 h8
      clear eD
      rw [if_neg (show ¬ way = 8 by lia), if_neg (show ¬ way = 9 by lia), if_neg (show ¬ way = 10 by lia), if_neg (show ¬ way = 11 by lia), if_neg (show ¬ way = 12 by lia)] at q
      refine iteF (hM _ _ ?_)
      clear hM M
      refine seq_abs fun M hM => ?_
      refine ⟨_, rfl, _, _, rfl, rfl, ⟨by decide, by decide⟩, _, _, rfl, rfl, ⟨by decide, by decide, by decide⟩, _, _, rfl, rfl, pos58, ?_⟩
      show gName 5 (V.int (cell / 192 % (10 : Int) ^ 58)) _ _ _
      generalize cell / 192 % (10 : Int) ^ 58 = far at q ⊢
      refine hM _ _ ?_
      clear hM M
      try dsimp only [List.set]
      have ka := at_ord al
      have klog : (at0 ord a).natAbs.log2 < 1920 := by
        have := mem_ups.mp (pm.mem_iff.mp (List.getElem_mem al))
        rw [at0_get al]
        exact log_small (by lia)
      refine seq_abs fun M hM => ?_
      refine ⟨_, rfl, _, rfl, o, _, _, _, rfl, rfl, ho1, ka, at0 ord a, rfl, klog, ?_⟩
      refine ⟨by show 1 <= sizeLine; decide, fun l0 hl0 => ?_⟩
      have sA := Same.new (o := HO.lst [.int 0]) hl0
      have hA : (upd H l0 (.lst [.int 0])) l0 = some (.lst [.int 0]) := upd_same
      generalize upd H l0 (.lst [.int 0]) = HA at sA hA ⊢
      refine ⟨by show 1 <= sizeLine; decide, fun t0 ht0 => ?_⟩
      have sB := Same.new (o := HO.tup [.int 0]) ht0
      have hB : (upd HA t0 (.tup [.int 0])) t0 = some (.tup [.int 0]) := upd_same
      replace hA := sB _ _ hA
      replace sB := sA.trans sB
      generalize upd HA t0 (.tup [.int 0]) = HB at sB hA hB ⊢
      refine fun d3 hd3 => ?_
      have s2 := Same.new (o := HO.dK []) hd3
      have h2 : (upd HB d3 (.dK [])) d3 = some (.dK []) := upd_same
      replace hA := s2 _ _ hA
      replace hB := s2 _ _ hB
      replace s2 := sB.trans s2
      generalize upd HB d3 (.dK []) = H2 at s2 h2 hA hB ⊢
      refine ⟨by show 5 <= sizeLine; decide, fun l3 hl3 => ?_⟩
      have s3 := Same.new (o := HO.lst [.str (toString (at0 ord (a : Int))), .non, .ref l0, .ref t0, .ref d3]) hl3
      have h3 : (upd H2 l3 (.lst [.str (toString (at0 ord (a : Int))), .non, .ref l0, .ref t0, .ref d3])) l3 = some (.lst [.str (toString (at0 ord (a : Int))), .non, .ref l0, .ref t0, .ref d3]) := upd_same
      replace hA := s3 _ _ hA
      replace hB := s3 _ _ hB
      replace h2 := s3 _ _ h2
      replace s3 := s2.trans s3
      generalize upd H2 l3 (.lst [.str (toString (at0 ord (a : Int))), .non, .ref l0, .ref t0, .ref d3]) = H3 at s3 h2 h3 hA hB ⊢
      obtain ⟨x3, a3, g3⟩ : ∃ x, atI ([.str (toString (at0 ord (a : Int))), .non, .ref l0, .ref t0, .ref d3] : List V) (far % 5) = some x /\ Hold0 H3 x (if far % 5 = 0 then .fl (.str (toString (at0 ord (a : Int)))) else if far % 5 = 1 then .fl .non else if far % 5 = 2 then .ls [.int 0] else if far % 5 = 3 then .tu [.int 0] else .di) := by
        have : far % 5 = 0 \/ far % 5 = 1 \/ far % 5 = 2 \/ far % 5 = 3 \/ far % 5 = 4 := by lia
        have fz : ∀ z : Int, ∀ y ∈ ([.int z] : List V), flatV y = true := fun z y hy => by rw [List.mem_singleton.mp hy]; rfl
        rcases this with e | e | e | e | e
        · rw [e]; exact ⟨_, atI_nat (j := 0) rfl, ⟨rfl, rfl⟩⟩
        · rw [e]; exact ⟨_, atI_nat (j := 1) rfl, ⟨rfl, rfl⟩⟩
        · rw [e]; exact ⟨_, atI_nat (j := 2) rfl, ⟨l0, rfl, hA, fz _⟩⟩
        · rw [e]; exact ⟨_, atI_nat (j := 3) rfl, ⟨t0, rfl, hB, fz _⟩⟩
        · rw [e]; exact ⟨_, atI_nat (j := 4) rfl, ⟨d3, rfl, h2⟩⟩
      refine ⟨_, rfl, _, _, rfl, rfl, (by show (0 : Int) < 5; decide), l3, _, _, x3, rfl, rfl, SqL.of h3, a3, hM _ _ ?_⟩
      clear hM M
      try dsimp only [List.set]
      refine seq_abs fun M hM => ?_
      have fin : ∀ (v : V) (H7 : Hp), Same H H7 -> Hold0 H7 v (oddT ord a far way) -> M [some (.ref o), some (.int cell), some (.int way), some (.int (ord.length : Int)), some (.int (a : Int)), some (.int far), some x3, some v] H7 := fun v H7 s7 g7 => hM _ _ (by
        clear hM
        refine ⟨_, rfl, _, rfl, _, rfl, o, _, rfl, SqL.of (s7 _ _ ho), fun p1 hp1 => ?_⟩
        rw [eT]
        have s1 := Same.new (o := HO.lst ((ord.take a).map V.int)) hp1
        have h1 : (upd H7 p1 (.lst ((ord.take a).map V.int))) p1 = some (.lst ((ord.take a).map V.int)) := upd_same
        replace g7 := g7.same s1
        replace s1 := s7.trans s1
        generalize upd H7 p1 (.lst ((ord.take a).map V.int)) = H1 at s1 h1 g7 ⊢
        refine ⟨_, rfl, by show 1 <= sizeLine; decide, fun p2 hp2 => ?_⟩
        have s2 := Same.new (o := HO.lst [v]) hp2
        have h2 : (upd H1 p2 (.lst [v])) p2 = some (.lst [v]) := upd_same
        replace h1 := s2 _ _ h1
        replace g7 := g7.same s2
        replace s2 := s1.trans s2
        generalize upd H1 p2 (.lst [v]) = H2 at s2 h1 h2 g7 ⊢
        refine ⟨p1, p2, _, _, rfl, rfl, h1, h2, ?_, fun p3 hp3 => ?_⟩
        · rw [List.length_map, List.length_take]
          exact sz _ (show min a ord.length + 1 <= 40 by lia)
        have s3 := Same.new (o := HO.lst ((ord.take a).map V.int ++ [v])) hp3
        have h3 : (upd H2 p3 (.lst ((ord.take a).map V.int ++ [v]))) p3 = some (.lst ((ord.take a).map V.int ++ [v])) := upd_same
        replace g7 := g7.same s3
        replace s3 := s2.trans s3
        generalize upd H2 p3 (.lst ((ord.take a).map V.int ++ [v])) = H3 at s3 h3 g7 ⊢
        refine ⟨_, rfl, _, rfl, _, _, rfl, rfl, _, rfl, o, _, rfl, SqL.of (s3 _ _ ho), fun p4 hp4 => ?_⟩
        rw [eD1]
        have s4 := Same.new (o := HO.lst ((ord.drop (a + 1)).map V.int)) hp4
        have h4 : (upd H3 p4 (.lst ((ord.drop (a + 1)).map V.int))) p4 = some (.lst ((ord.drop (a + 1)).map V.int)) := upd_same
        replace h3 := s4 _ _ h3
        replace g7 := g7.same s4
        replace s4 := s3.trans s4
        generalize upd H3 p4 (.lst ((ord.drop (a + 1)).map V.int)) = H4 at s4 h3 h4 g7 ⊢
        refine ⟨p3, p4, _, _, rfl, rfl, h3, h4, ?_, fun p5 hp5 => ?_⟩
        · rw [List.length_append, List.length_map, List.length_map, List.length_take, List.length_drop]
          exact sz _ (show min a ord.length + 1 + (ord.length - (a + 1)) <= 40 by lia)
        have s5 := Same.new (o := HO.lst ((ord.take a).map V.int ++ [v] ++ (ord.drop (a + 1)).map V.int)) hp5
        exact q _ _ (s4.trans s5) ⟨p5, _, rfl, upd_same, pair_app (pair_app (pair_fi _ _) (.cons (g7.same s5) .nil)) (pair_fi _ _)⟩)
      clear hM q
      refine fun dp hdp => ?_
      have n3 : x3 ≠ .ref dp := by
        have hpl := hold_some g3
        intro z
        obtain ⟨o', ho'⟩ := hpl dp z
        rw [ho'] at hdp
        cases hdp
      have s4 := Same.new (o := HO.dK []) hdp
      have hd1 : (upd H3 dp (.dK [])) dp = some (.dK []) := upd_same
      replace g3 := g3.same s4
      replace s4 := s3.trans s4
      have dpH : H dp = none := s3.free hdp
      generalize upd H3 dp (.dK []) = H4 at s4 hd1 g3 ⊢
      refine ⟨_, rfl, _, rfl, _, _, rfl, rfl, o, _, _, _, rfl, rfl, SqL.of (s4 _ _ ho), at_prev al, ?_⟩
      refine ⟨_, rfl, _, rfl, _, _, rfl, rfl, ?_⟩
      refine ⟨_, rfl, _, rfl, _, _, rfl, rfl, ?_⟩
      refine ⟨_, rfl, ?_⟩
      refine ⟨hd1, [((.inl 2 : Key), V.int (prevT ord a)), ((.inl 3 : Key), V.int ((ord.length : Int) + far)), ((.inl 4 : Key), V.int (-1 - far)), ((.inl 6 : Key), x3)], rfl, by show 4 <= 15; decide, ?_⟩
      have s7 : Same H (upd H4 dp (HO.dK (mergeK [] [((.inl 2 : Key), V.int (prevT ord a)), ((.inl 3 : Key), V.int ((ord.length : Int) + far)), ((.inl 4 : Key), V.int (-1 - far)), ((.inl 6 : Key), x3)]))) := put_fr s4 dpH
      have g3' := hold_upd (o := HO.dK (mergeK [] [((.inl 2 : Key), V.int (prevT ord a)), ((.inl 3 : Key), V.int ((ord.length : Int) + far)), ((.inl 4 : Key), V.int (-1 - far)), ((.inl 6 : Key), x3)])) g3 n3
      have w4 : way = 2 \/ way = 3 \/ way = 4 \/ way = 6 := by lia
      have h7 : (upd H4 dp (HO.dK (mergeK [] [((.inl 2 : Key), V.int (prevT ord a)), ((.inl 3 : Key), V.int ((ord.length : Int) + far)), ((.inl 4 : Key), V.int (-1 - far)), ((.inl 6 : Key), x3)]))) dp = some (HO.dK [((.inl 2 : Key), V.int (prevT ord a)), ((.inl 3 : Key), V.int ((ord.length : Int) + far)), ((.inl 4 : Key), V.int (-1 - far)), ((.inl 6 : Key), x3)]) := upd_same
      generalize upd H4 dp (HO.dK (mergeK [] [((.inl 2 : Key), V.int (prevT ord a)), ((.inl 3 : Key), V.int ((ord.length : Int) + far)), ((.inl 4 : Key), V.int (-1 - far)), ((.inl 6 : Key), x3)])) = H7 at s7 g3' h7 ⊢
      rcases w4 with rfl | rfl | rfl | rfl
      · exact ⟨_, rfl, dp, _, rfl, DGet.k (k := .inl 2) h7, fin _ _ s7 ⟨rfl, rfl⟩⟩
      · exact ⟨_, rfl, dp, _, rfl, DGet.k (k := .inl 3) h7, fin _ _ s7 ⟨rfl, rfl⟩⟩
      · exact ⟨_, rfl, dp, _, rfl, DGet.k (k := .inl 4) h7, fin _ _ s7 ⟨rfl, rfl⟩⟩
      · exact ⟨_, rfl, dp, _, rfl, DGet.k (k := .inl 6) h7, fin _ _ s7 g3'⟩)
    refine ⟨_, rfl, rfl, _, rfl, ?_⟩
    rw [vF cw]
    refine iteF ⟨_, rfl, rfl, _, rfl, ?_⟩
    by_cases m0 : ord.length = 0
    · rw [vT (show (ord.length : Int) = 0 by lia)]
      refine iteT ⟨_, rfl, _, _, rfl, rfl, _, rfl, ?_⟩
      rw [decide_eq_false (show ¬ way < 8 from fun h => c0 (.inr ⟨m0, h⟩))]
      exact iteF go
    · rw [vF (show (ord.length : Int) ≠ 0 by lia)]
      exact iteF (iteF go)
end
open PySem.W (subIn kitOne kitAny)
structure ExcR (K : W.Frag) (mg : Str -> Option Value) (c : Fin 3 -> Addr) (n : Fin 8 -> Addr) (o : Fin 4 -> Addr) (Wc : Addr) (bW : List Value) : Prop where
  s0 : mg "NoDrawing" = some (.ref (c 0))
  s1 : mg "NotJoined" = some (.ref (c 1))
  s2 : mg "NotPlane" = some (.ref (c 2))
  n0 : mg "NoNumber" = some (.ref (n 0))
  n1 : mg "NoOrder" = some (.ref (n 1))
  n2 : mg "NoPlaces" = some (.ref (n 2))
  n3 : mg "NoPoint" = some (.ref (n 3))
  n4 : mg "NoSuch" = some (.ref (n 4))
  n5 : mg "NoText" = some (.ref (n 5))
  n6 : mg "NoTie" = some (.ref (n 6))
  n7 : mg "NotApart" = some (.ref (n 7))
  o0 : mg "NoName" = some (.ref (o 0))
  o1 : mg "NoRow" = some (.ref (o 1))
  o2 : mg "TooMany" = some (.ref (o 2))
  o3 : mg "NoWeb" = some (.ref (o 3))
  hw : mg "WebError" = some (.ref Wc)
  ve : mg "ValueError" = none
  xw : excB K Wc bW = true
  kx : ∀ i, excKB K (c i) = true
  sb : ∀ i, subIn K (.ref (c i)) (.ref Wc) = some true
  yv : ∀ i, kitOne K (.ref (c i)) (.type "ValueError") = some true
  no : ∀ i j, kitOne K (.ref (c i)) (.ref (c j)) = some (decide (i = j))
  a8 : ∀ i, kitAny K (.ref (c i)) [.ref (n 0), .ref (n 1), .ref (n 2), .ref (n 3), .ref (n 4), .ref (n 5), .ref (n 6), .ref (n 7)] = some false
  a4 : ∀ i, kitAny K (.ref (c i)) [.ref (o 0), .ref (o 1), .ref (o 2), .ref (o 3)] = some false
  fl : PySem.W.findIn K (.ref (c 2)) "lands" = some none
  hd : hasDB K (c 2) = true
theorem boot_ve : bootBuiltins "ValueError" = some (.type "ValueError") := by first | rfl | decide +kernel
theorem vals_refs {l : List Addr} : ∀ {us : List Value}, Vals (l.map V.ref) us -> us = l.map Value.ref := by
  induction l with
  | nil => intro us h; exact Vals.zero h
  | cons a l ih =>
    intro us h
    cases h with
    | cons r t => rw [ih t, show _ = Value.ref a from r]; rfl
theorem eqV_bl (i j : Bool) : eqV (.bl i) (.bl j) = decide (i = j) := by
  unfold eqV
  rw [Bool.eq_iff_iff, beq_iff_eq, decide_eq_true_iff]
def rEqLB (K : W.Frag) : R2 := fun x y H Q => ∃ (a b : Addr) (ks ms : List Bool), x = .ref a /\ y = .ref b /\ SqL K H a (ks.map V.bl) /\ SqL K H b (ms.map V.bl) /\ Q (.bl (decide (ks = ms))) H
theorem op_eqLB {X : Cx} (hu : X.A.units + 66 < cLine) : OpR X (compareOp .Eq) (rEqLB X.K) := by
  intro pins s σ H x y v u Q I rx ry h
  obtain ⟨a, b, ks, ms, rfl, rfl, ha, hb, q⟩ := h
  cases (show v = Value.ref a from rx)
  cases (show u = Value.ref b from ry)
  obtain ⟨its, r1, t1, _⟩ := I.list ha
  obtain ⟨its2, r2, t2, _⟩ := I.list hb
  have l1 : its.toArray.size = ks.length := by rw [List.size_toArray, <- r1.length, List.length_map]
  have l2 : its2.toArray.size = ms.length := by rw [List.size_toArray, <- r2.length, List.length_map]
  by_cases c : ks.length = ms.length
  · refine SeqAt.eq_listAt (e := fun i => decide (ks.getD i false = ms.getD i false)) t1.isList t2.isList (by lia) (by lia) (fun j h1 h2 => ?_) ?_
    · have i1 : j < ks.length := by lia
      have i2 : j < ms.length := by lia
      obtain ⟨v1, e1, p1⟩ := r1.get (i := j) (x := .bl ks[j]) (by simp [i1])
      obtain ⟨v2, e2, p2⟩ := r2.get (i := j) (x := .bl ms[j]) (by simp [i2])
      have w1 : its.toArray[j] = v1 := by have := List.getElem?_eq_some_iff.mp e1; simpa using this.2
      have w2 : its2.toArray[j] = v2 := by have := List.getElem?_eq_some_iff.mp e2; simpa using this.2
      rw [w1, w2]
      have := eqAt_V (A := X.A.in1) (s := s) p1 p2 rfl rfl
      rw [eqV_bl] at this
      simpa [i1, i2] using this
    · have := all_same false l1 l2
      rw [show min its.toArray.size its2.toArray.size = its.toArray.size by lia, show (its.toArray.size == its2.toArray.size) = true by rw [beq_iff_eq]; lia, Bool.and_true] at this
      rw [this]
      exact ⟨.bl _, H, I, rfl, q⟩
  · refine SeqAt.eq_list_lengthsAt t1.isList t2.isList (by rw [bne_iff_ne, l1, l2]; exact c) (by lia) ?_
    rw [decide_eq_false (fun z => c (by rw [z]))] at q
    exact ⟨.bl _, H, I, rfl, q⟩
theorem op_eqLBK {X : Cx} {K : W.Frag} (hu : X.A.units + 66 < cLine) (h : X.K = K := by rfl) : OpR X (compareOp .Eq) (rEqLB K) := h ▸ op_eqLB hu
def DueAt (K : W.Frag) (H : Hp) (v : V) (ts : List Nat) (m : Nat) : Prop :=
  (¬ JnAll ts m /\ ∃ g l, v = .ref g /\ H g = some (.tup [.ref l, .int 0]) /\ H l = some (.lst (([false, true, false] : List Bool).map V.bl))) \/
  (JnAll ts m /\ nv ts m + nf ts m ≠ m + 2 /\ ∃ g l, v = .ref g /\ H g = some (.tup [.ref l, .int (nf ts m : Int)]) /\ H l = some (.lst (([false, false, true] : List Bool).map V.bl))) \/
  (JnAll ts m /\ nv ts m + nf ts m = m + 2 /\ ∃ g t, v = .ref g /\ H g = some (.tup [.ref t, .int 0]) /\ SqT K H t ((ci ts).map V.int))
def BadAt (H : Hp) (v : V) : Prop := ∃ g l, v = .ref g /\ H g = some (.tup [.ref l, .int 0]) /\ H l = some (.lst (([true, false, false] : List Bool).map V.bl))
def spSortD (K : W.Frag) : Sp := fun vs H Q _ => (∃ (kd : Kd) (a : Addr) (ts : List Nat) (m : Nat), vs = [.ref a] /\ HK kd H a ((ci ts).map V.int) /\ ts.length = 2 * m /\ PermOn (fn ts) (2 * m) /\ m <= 8 /\ ∀ v H', Same H H' -> DueAt K H' v ts m -> Q v H') \/
  ∃ x : V, vs = [x] /\ (∀ k : Nat, k <= 8 -> BadOrd K H (2 * k) x) /\ ∀ v H', Same H H' -> BadAt H' v -> Q v H'
def spDue (K : W.Frag) : Sp := fun vs H Q _ => ∃ (lt : Addr) (ts : List Nat) (m : Nat), vs = [.ref lt] /\ H lt = some (.lst ((ci ts).map V.int)) /\ PermOn (fn ts) (2 * m) /\ ts.length = 2 * m /\ m <= 8 /\ ∀ v H', Same H H' -> DueAt K H' v ts m -> Q v H'
section
variable {P : Program} {w : World} {K : W.Frag} {mg : Str -> Option Value} {base : Heap} {c : Fin 3 -> Addr} {n : Fin 8 -> Addr} {o : Fin 4 -> Addr} {Wc : Addr} {bW : List Value}
seal PSs PS PE PI PA PT PG
theorem pe_atPK {X : Cx} {e : Expr} {f : Str} {pos : Pos} {ta : TE} (he : PE X e ta) (hb : attributeBase e f X.env (eval e X.env) = eval e X.env := by rfl) (h : X.K = K := by rfl) : PE X (.Attribute e f pos) (tAtP K ta f) := h ▸ pe_atP he hb
theorem scSort : FnScope ["_law_thing", "e", "_law_sorts", "_law_some", "_law_more"] ["_law_thing"] (defScope sSort) := ⟨rfl, rfl, rfl, by decide +kernel, rfl, by decide +kernel, by decide +kernel⟩
theorem d_sortD (T : Txt K mg) (X : ExcR K mg c n o Wc bW) (S : Src K mg "_law_sort" sSort ["_law_thing"]) (DQ : DefQ P w K mg base 4 "drawing_of" ["turns"] (spDrQ K (c 1) (c 2))) (DB : DefQ P w K mg base 4 "drawing_of" ["turns"] (spDrB K (c 0))) : Def P w K mg base 5 "_law_sort" ["_law_thing"] (spSortD K) := by
  refine S.def scSort (fun vs H Q E h => ?_) (fun f cdv A outer s H vs Q E hr h => ?_)
  · rcases h with ⟨_, _, _, _, rfl, _⟩ | ⟨_, rfl, _⟩ <;> rfl
  · obtain ⟨x, rfl⟩ : ∃ x, vs = [x] := by
      rcases h with ⟨_, a, _, _, rfl, _⟩ | ⟨x, rfl, _⟩
      · exact ⟨_, rfl⟩
      · exact ⟨_, rfl⟩
    refine ⟨_, pss_cons (ps_tryQ (i := 1) rfl X.hw X.xw scSort.nd rfl rfl (pxqs_one (pxq_or (pxq_call DQ hr rfl (pa_cons (pv 0) pa_nil) (fun _ _ z => z)) (pxq_call DB hr rfl (pa_cons (pv 0) pa_nil) (fun _ _ z => z))))
        (fun v => pss_cons (ps_set (i := 2) scSort.nd rfl (Or.inl rfl) (pe_lst (pa_cons (pe_callB (r := rIsP K) call_isP (by rfl) T.isi boot_isi (pa_cons (pv 1) (pa_cons (pe_glob (v := .ref (c 0)) rfl X.s0 rfl) pa_nil))) (pa_cons (pe_callB (r := rIsP K) call_isP (by rfl) T.isi boot_isi (pa_cons (pv 1) (pa_cons (pe_glob (v := .ref (c 1)) rfl X.s1 rfl) pa_nil))) (pa_cons (pe_callB (r := rIsP K) call_isP (by rfl) T.isi boot_isi (pa_cons (pv 1) (pa_cons (pe_glob (v := .ref (c 2)) rfl X.s2 rfl) pa_nil))) pa_nil)))))
          (pss_cons (ps_set (i := 3) scSort.nd rfl (Or.inl rfl) (pe_callB (r := rIsPs K) call_isPs (by rfl) T.isi boot_isi (pa_cons (pv 1) (pa_cons (pe_tup (pa_cons (pe_glob (v := .ref (n 0)) rfl X.n0 rfl) (pa_cons (pe_glob (v := .ref (n 1)) rfl X.n1 rfl) (pa_cons (pe_glob (v := .ref (n 2)) rfl X.n2 rfl) (pa_cons (pe_glob (v := .ref (n 3)) rfl X.n3 rfl) (pa_cons (pe_glob (v := .ref (n 4)) rfl X.n4 rfl) (pa_cons (pe_glob (v := .ref (n 5)) rfl X.n5 rfl) (pa_cons (pe_glob (v := .ref (n 6)) rfl X.n6 rfl) (pa_cons (pe_glob (v := .ref (n 7)) rfl X.n7 rfl) pa_nil))))))))) pa_nil))))
          (pss_cons (ps_set (i := 4) scSort.nd rfl (Or.inl rfl) (pe_callB (r := rIsPs K) call_isPs (by rfl) T.isi boot_isi (pa_cons (pv 1) (pa_cons (pe_tup (pa_cons (pe_glob (v := .ref (o 0)) rfl X.o0 rfl) (pa_cons (pe_glob (v := .ref (o 1)) rfl X.o1 rfl) (pa_cons (pe_glob (v := .ref (o 2)) rfl X.o2 rfl) (pa_cons (pe_glob (v := .ref (o 3)) rfl X.o3 rfl) pa_nil))))) pa_nil))))
          (pss_cons (ps_if (PW.pt (pw_or (pt_val (pv 3)) (pw_or (pt_val (pv 4)) (pw_or1 (pt_not (pt_val (pe_callB (r := rIsP K) call_isP (by rfl) T.isi boot_isi (pa_cons (pv 1) (pa_cons (pe_bltn (v := .ty "ValueError") rfl X.ve boot_ve rfl) pa_nil))))))))) (pss_one (ps_ret pe_non)) pss_nil)
          (pss_cons (ps_if (pt_cmpR (op_eqLBK (K := K) (by have := units66 hr; exact this)) (pv 2) (pe_lst (pa_cons pe_bl (pa_cons pe_bl (pa_cons pe_bl pa_nil)))) (nomark _)) (pss_one (ps_ret (pe_tup (pa_cons (pv 2) (pa_cons (pe_atPK (K := K) (pv 1)) pa_nil))))) pss_nil)
          (pss_one (ps_ret (pe_tup (pa_cons (pv 2) (pa_cons pe_int pa_nil)))))))))) rfl rfl)
      (pss_one (ps_ret (pe_tup (pa_cons (pe_defQ DQ hr rfl (pa_cons (pv 0) pa_nil)) (pa_cons pe_int pa_nil))))), ?_⟩
    rcases h with ⟨kd, a, ts, m, e, ha, tl, PT, m8, q⟩ | ⟨x', e, bo, q⟩
    · cases e
      refine seq_abs fun M hM => .inl ?_
      have nx : JnAll ts m -> nv ts m + nf ts m = m + 2 -> ∀ H', Same H H' -> M [some (.ref a), none, none, none, none] H' := fun jo pn H' s' => hM _ _ (by
        refine ⟨_, rfl, kd, a, ts, m, rfl, ha.same s', tl, PT, m8, (fun z => absurd jo z), (fun _ z => absurd pn z), fun _ _ t H2 s2 ht => ⟨by show 2 <= sizeLine; decide, fun g hg => ?_⟩⟩
        have s3 := Same.new (o := HO.tup [.ref t, .int 0]) hg
        exact q _ _ (s'.trans (s2.trans s3)) (.inr (.inr ⟨jo, pn, g, t, rfl, upd_same, sqT s3 ht⟩)))
      clear hM
      refine ⟨_, rfl, kd, a, ts, m, rfl, ha, tl, PT, m8, fun jo H' s' => ⟨c 1, rfl, X.sb 1, fun ea hea => ?_⟩, fun jo pn dx H' s' hdx => ⟨c 2, rfl, X.sb 2, fun ea hea => ?_⟩, fun jo pn t H' s' ht => nx jo pn H' s'⟩
      · clear nx
        have Z := L2.excK_of (X.kx 1)
        have he : (upd H' ea (excP ea (c 1) none)) ea = some (excP ea (c 1) none) := upd_same
        have s1 := Same.new (o := excP ea (c 1) none) hea
        replace s1 := s'.trans s1
        generalize upd H' ea (excP ea (c 1) none) = H1 at he s1 ⊢
        refine ⟨_, rfl, ea, c 1, none, _, _, _, rfl, rfl, he, Z, X.no 1 0, _, rfl, ea, c 1, none, _, _, _, rfl, rfl, he, Z, X.no 1 1, _, rfl, ea, c 1, none, _, _, _, rfl, rfl, he, Z, X.no 1 2, by show 3 <= sizeLine; decide, fun l hl => ?_⟩
        have s2 := Same.new (o := HO.lst [.bl (decide ((1 : Fin 3) = 0)), .bl (decide ((1 : Fin 3) = 1)), .bl (decide ((1 : Fin 3) = 2))]) hl
        have h2 : (upd H1 l (.lst [.bl (decide ((1 : Fin 3) = 0)), .bl (decide ((1 : Fin 3) = 1)), .bl (decide ((1 : Fin 3) = 2))])) l = some (.lst ([decide ((1 : Fin 3) = 0), decide ((1 : Fin 3) = 1), decide ((1 : Fin 3) = 2)].map V.bl)) := upd_same
        replace he := s2 _ _ he
        replace s2 := s1.trans s2
        generalize upd H1 l (.lst [.bl (decide ((1 : Fin 3) = 0)), .bl (decide ((1 : Fin 3) = 1)), .bl (decide ((1 : Fin 3) = 2))]) = H2 at he s2 h2 ⊢
        dsimp only [List.set]
        refine ⟨_, rfl, by show 8 <= sizeLine; decide, fun p1 hp1 => ?_⟩
        have s3 := Same.new (o := HO.tup [.ref (n 0), .ref (n 1), .ref (n 2), .ref (n 3), .ref (n 4), .ref (n 5), .ref (n 6), .ref (n 7)]) hp1
        refine ⟨ea, c 1, p1, none, [.ref (n 0), .ref (n 1), .ref (n 2), .ref (n 3), .ref (n 4), .ref (n 5), .ref (n 6), .ref (n 7)], false, rfl, SqT.of upd_same, s3 _ _ he, Z, fun us r => by rw [vals_refs (l := [n 0, n 1, n 2, n 3, n 4, n 5, n 6, n 7]) r]; exact X.a8 1, ?_⟩
        replace he := s3 _ _ he
        replace h2 := s3 _ _ h2
        replace s3 := s2.trans s3
        generalize upd H2 p1 (HO.tup [.ref (n 0), .ref (n 1), .ref (n 2), .ref (n 3), .ref (n 4), .ref (n 5), .ref (n 6), .ref (n 7)]) = H3 at s3 he h2 ⊢
        dsimp only [List.set]
        refine ⟨_, rfl, by show 4 <= sizeLine; decide, fun p2 hp2 => ?_⟩
        have s4 := Same.new (o := HO.tup [.ref (o 0), .ref (o 1), .ref (o 2), .ref (o 3)]) hp2
        refine ⟨ea, c 1, p2, none, [.ref (o 0), .ref (o 1), .ref (o 2), .ref (o 3)], false, rfl, SqT.of upd_same, s4 _ _ he, Z, fun us r => by rw [vals_refs (l := [o 0, o 1, o 2, o 3]) r]; exact X.a4 1, ?_⟩
        replace he := s4 _ _ he
        replace h2 := s4 _ _ h2
        replace s4 := s3.trans s4
        generalize upd H3 p2 (HO.tup [.ref (o 0), .ref (o 1), .ref (o 2), .ref (o 3)]) = H4 at s4 he h2 ⊢
        dsimp only [List.set]
        refine ⟨_, rfl, _, rfl, iteF ⟨_, rfl, _, rfl, iteF ⟨_, rfl, ea, c 1, none, _, _, _, rfl, rfl, he, Z, X.yv 1, _, rfl, iteF ?_⟩⟩⟩
        refine ⟨_, rfl, by show 3 <= sizeLine; decide, fun l4 hl4 => ?_⟩
        have s5 := Same.new (o := HO.lst [.bl false, .bl false, .bl true]) hl4
        have h5 : (upd H4 l4 (.lst [.bl false, .bl false, .bl true])) l4 = some (.lst (([false, false, true] : List Bool).map V.bl)) := upd_same
        replace he := s5 _ _ he
        replace h2 := s5 _ _ h2
        replace s5 := s4.trans s5
        generalize upd H4 l4 (.lst [.bl false, .bl false, .bl true]) = H5 at s5 he h2 h5 ⊢
        refine ⟨l, l4, _, _, rfl, rfl, SqL.of h2, SqL.of h5, _, rfl, iteF ?_⟩
        refine ⟨_, rfl, by show 2 <= sizeLine; decide, fun g hg => ?_⟩
        have s6 := Same.new (o := HO.tup [.ref l, .int 0]) hg
        exact q _ _ (s5.trans s6) (.inl ⟨jo, g, l, rfl, upd_same, s6 _ _ h2⟩)
      · clear nx
        have Z := L2.excK_of (X.kx 2)
        have he : (upd H' ea (excP ea (c 2) (some dx))) ea = some (excP ea (c 2) (some dx)) := upd_same
        have s1 := Same.new (o := excP ea (c 2) (some dx)) hea
        replace hdx := s1 _ _ hdx
        replace s1 := s'.trans s1
        generalize upd H' ea (excP ea (c 2) (some dx)) = H1 at he s1 hdx ⊢
        refine ⟨_, rfl, ea, c 2, (some dx), _, _, _, rfl, rfl, he, Z, X.no 2 0, _, rfl, ea, c 2, (some dx), _, _, _, rfl, rfl, he, Z, X.no 2 1, _, rfl, ea, c 2, (some dx), _, _, _, rfl, rfl, he, Z, X.no 2 2, by show 3 <= sizeLine; decide, fun l hl => ?_⟩
        have s2 := Same.new (o := HO.lst [.bl (decide ((2 : Fin 3) = 0)), .bl (decide ((2 : Fin 3) = 1)), .bl (decide ((2 : Fin 3) = 2))]) hl
        have h2 : (upd H1 l (.lst [.bl (decide ((2 : Fin 3) = 0)), .bl (decide ((2 : Fin 3) = 1)), .bl (decide ((2 : Fin 3) = 2))])) l = some (.lst ([decide ((2 : Fin 3) = 0), decide ((2 : Fin 3) = 1), decide ((2 : Fin 3) = 2)].map V.bl)) := upd_same
        replace hdx := s2 _ _ hdx
        replace he := s2 _ _ he
        replace s2 := s1.trans s2
        generalize upd H1 l (.lst [.bl (decide ((2 : Fin 3) = 0)), .bl (decide ((2 : Fin 3) = 1)), .bl (decide ((2 : Fin 3) = 2))]) = H2 at he s2 h2 hdx ⊢
        dsimp only [List.set]
        refine ⟨_, rfl, by show 8 <= sizeLine; decide, fun p1 hp1 => ?_⟩
        have s3 := Same.new (o := HO.tup [.ref (n 0), .ref (n 1), .ref (n 2), .ref (n 3), .ref (n 4), .ref (n 5), .ref (n 6), .ref (n 7)]) hp1
        refine ⟨ea, c 2, p1, (some dx), [.ref (n 0), .ref (n 1), .ref (n 2), .ref (n 3), .ref (n 4), .ref (n 5), .ref (n 6), .ref (n 7)], false, rfl, SqT.of upd_same, s3 _ _ he, Z, fun us r => by rw [vals_refs (l := [n 0, n 1, n 2, n 3, n 4, n 5, n 6, n 7]) r]; exact X.a8 2, ?_⟩
        replace he := s3 _ _ he
        replace h2 := s3 _ _ h2
        replace hdx := s3 _ _ hdx
        replace s3 := s2.trans s3
        generalize upd H2 p1 (HO.tup [.ref (n 0), .ref (n 1), .ref (n 2), .ref (n 3), .ref (n 4), .ref (n 5), .ref (n 6), .ref (n 7)]) = H3 at s3 he h2 hdx ⊢
        dsimp only [List.set]
        refine ⟨_, rfl, by show 4 <= sizeLine; decide, fun p2 hp2 => ?_⟩
        have s4 := Same.new (o := HO.tup [.ref (o 0), .ref (o 1), .ref (o 2), .ref (o 3)]) hp2
        refine ⟨ea, c 2, p2, (some dx), [.ref (o 0), .ref (o 1), .ref (o 2), .ref (o 3)], false, rfl, SqT.of upd_same, s4 _ _ he, Z, fun us r => by rw [vals_refs (l := [o 0, o 1, o 2, o 3]) r]; exact X.a4 2, ?_⟩
        replace he := s4 _ _ he
        replace h2 := s4 _ _ h2
        replace hdx := s4 _ _ hdx
        replace s4 := s3.trans s4
        generalize upd H3 p2 (HO.tup [.ref (o 0), .ref (o 1), .ref (o 2), .ref (o 3)]) = H4 at s4 he h2 hdx ⊢
        dsimp only [List.set]
        refine ⟨_, rfl, _, rfl, iteF ⟨_, rfl, _, rfl, iteF ⟨_, rfl, ea, c 2, (some dx), _, _, _, rfl, rfl, he, Z, X.yv 2, _, rfl, iteF ?_⟩⟩⟩
        refine ⟨_, rfl, by show 3 <= sizeLine; decide, fun l4 hl4 => ?_⟩
        have s5 := Same.new (o := HO.lst [.bl false, .bl false, .bl true]) hl4
        have h5 : (upd H4 l4 (.lst [.bl false, .bl false, .bl true])) l4 = some (.lst (([false, false, true] : List Bool).map V.bl)) := upd_same
        replace he := s5 _ _ he
        replace h2 := s5 _ _ h2
        replace hdx := s5 _ _ hdx
        replace s5 := s4.trans s5
        generalize upd H4 l4 (.lst [.bl false, .bl false, .bl true]) = H5 at s5 he h2 h5 hdx ⊢
        refine ⟨l, l4, _, _, rfl, rfl, SqL.of h2, SqL.of h5, _, rfl, iteT ?_⟩
        refine ⟨_, rfl, _, rfl, ea, c 2, dx, _, (nf ts m : Int), rfl, he, hdx, Z, X.fl, X.hd, rfl, by show 2 <= sizeLine; decide, fun g hg => ?_⟩
        have s6 := Same.new (o := HO.tup [.ref l, .int (nf ts m : Int)]) hg
        exact q _ _ (s5.trans s6) (.inr (.inl ⟨jo, pn, g, l, rfl, upd_same, s6 _ _ h2⟩))
    · cases e
      refine .inr ⟨_, rfl, x, rfl, bo, fun H' s' => ⟨c 0, rfl, X.sb 0, fun ea hea => ?_⟩⟩
      have Z := L2.excK_of (X.kx 0)
      have he : (upd H' ea (excP ea (c 0) none)) ea = some (excP ea (c 0) none) := upd_same
      have s1 := Same.new (o := excP ea (c 0) none) hea
      replace s1 := s'.trans s1
      generalize upd H' ea (excP ea (c 0) none) = H1 at he s1 ⊢
      refine ⟨_, rfl, ea, c 0, none, _, _, _, rfl, rfl, he, Z, X.no 0 0, _, rfl, ea, c 0, none, _, _, _, rfl, rfl, he, Z, X.no 0 1, _, rfl, ea, c 0, none, _, _, _, rfl, rfl, he, Z, X.no 0 2, by show 3 <= sizeLine; decide, fun l hl => ?_⟩
      have s2 := Same.new (o := HO.lst [.bl (decide ((0 : Fin 3) = 0)), .bl (decide ((0 : Fin 3) = 1)), .bl (decide ((0 : Fin 3) = 2))]) hl
      have h2 : (upd H1 l (.lst [.bl (decide ((0 : Fin 3) = 0)), .bl (decide ((0 : Fin 3) = 1)), .bl (decide ((0 : Fin 3) = 2))])) l = some (.lst ([decide ((0 : Fin 3) = 0), decide ((0 : Fin 3) = 1), decide ((0 : Fin 3) = 2)].map V.bl)) := upd_same
      replace he := s2 _ _ he
      replace s2 := s1.trans s2
      generalize upd H1 l (.lst [.bl (decide ((0 : Fin 3) = 0)), .bl (decide ((0 : Fin 3) = 1)), .bl (decide ((0 : Fin 3) = 2))]) = H2 at he s2 h2 ⊢
      dsimp only [List.set]
      refine ⟨_, rfl, by show 8 <= sizeLine; decide, fun p1 hp1 => ?_⟩
      have s3 := Same.new (o := HO.tup [.ref (n 0), .ref (n 1), .ref (n 2), .ref (n 3), .ref (n 4), .ref (n 5), .ref (n 6), .ref (n 7)]) hp1
      refine ⟨ea, c 0, p1, none, [.ref (n 0), .ref (n 1), .ref (n 2), .ref (n 3), .ref (n 4), .ref (n 5), .ref (n 6), .ref (n 7)], false, rfl, SqT.of upd_same, s3 _ _ he, Z, fun us r => by rw [vals_refs (l := [n 0, n 1, n 2, n 3, n 4, n 5, n 6, n 7]) r]; exact X.a8 0, ?_⟩
      replace he := s3 _ _ he
      replace h2 := s3 _ _ h2
      replace s3 := s2.trans s3
      generalize upd H2 p1 (HO.tup [.ref (n 0), .ref (n 1), .ref (n 2), .ref (n 3), .ref (n 4), .ref (n 5), .ref (n 6), .ref (n 7)]) = H3 at s3 he h2 ⊢
      dsimp only [List.set]
      refine ⟨_, rfl, by show 4 <= sizeLine; decide, fun p2 hp2 => ?_⟩
      have s4 := Same.new (o := HO.tup [.ref (o 0), .ref (o 1), .ref (o 2), .ref (o 3)]) hp2
      refine ⟨ea, c 0, p2, none, [.ref (o 0), .ref (o 1), .ref (o 2), .ref (o 3)], false, rfl, SqT.of upd_same, s4 _ _ he, Z, fun us r => by rw [vals_refs (l := [o 0, o 1, o 2, o 3]) r]; exact X.a4 0, ?_⟩
      replace he := s4 _ _ he
      replace h2 := s4 _ _ h2
      replace s4 := s3.trans s4
      generalize upd H3 p2 (HO.tup [.ref (o 0), .ref (o 1), .ref (o 2), .ref (o 3)]) = H4 at s4 he h2 ⊢
      dsimp only [List.set]
      refine ⟨_, rfl, _, rfl, iteF ⟨_, rfl, _, rfl, iteF ⟨_, rfl, ea, c 0, none, _, _, _, rfl, rfl, he, Z, X.yv 0, _, rfl, iteF ?_⟩⟩⟩
      refine ⟨_, rfl, by show 3 <= sizeLine; decide, fun l4 hl4 => ?_⟩
      have s5 := Same.new (o := HO.lst [.bl false, .bl false, .bl true]) hl4
      have h5 : (upd H4 l4 (.lst [.bl false, .bl false, .bl true])) l4 = some (.lst (([false, false, true] : List Bool).map V.bl)) := upd_same
      replace he := s5 _ _ he
      replace h2 := s5 _ _ h2
      replace s5 := s4.trans s5
      generalize upd H4 l4 (.lst [.bl false, .bl false, .bl true]) = H5 at s5 he h2 h5 ⊢
      refine ⟨l, l4, _, _, rfl, rfl, SqL.of h2, SqL.of h5, _, rfl, iteF ?_⟩
      refine ⟨_, rfl, by show 2 <= sizeLine; decide, fun g hg => ?_⟩
      have s6 := Same.new (o := HO.tup [.ref l, .int 0]) hg
      exact q _ _ (s5.trans s6) ⟨g, l, rfl, upd_same, s6 _ _ h2⟩
theorem scDue : FnScope ["_law_turns_here", "_law_lands"] ["_law_turns_here"] (defScope sDue) := ⟨rfl, rfl, rfl, by decide +kernel, rfl, by decide +kernel, by decide +kernel⟩
theorem d_due (T : Txt K mg) (S : Src K mg "_law_due" sDue ["_law_turns_here"]) (DJ : Def P w K mg base 1 "_law_joined" ["_law_turns_here"] spLJoined) (DC : Def P w K mg base 2 "_law_count" ["_law_turns_here", "_law_along"] spCount) : Def P w K mg base 3 "_law_due" ["_law_turns_here"] (spDue K) := by
  refine S.def scDue (fun vs H Q E h => ?_) (fun f cdv A outer s H vs Q E hr h => ?_)
  · obtain ⟨_, _, _, rfl, _⟩ := h; rfl
  · obtain ⟨lt, ts, m, rfl, hlt, PT, tl, m8, q⟩ := h
    have hr1 : Room 1 _ := hr.mono (by decide)
    refine ⟨_, pss_cons (ps_if (pt_not (pt_val (pe_def DJ hr1 rfl (pa_cons (pv 0) pa_nil)))) (pss_one (ps_ret (pe_tup (pa_cons (pe_lst (pa_cons pe_bl (pa_cons pe_bl (pa_cons pe_bl pa_nil)))) (pa_cons pe_int pa_nil))))) pss_nil)
      (pss_cons (ps_set (i := 1) scDue.nd rfl (Or.inl rfl) (pe_def DC hr rfl (pa_cons (pv 0) (pa_cons pe_int pa_nil))))
      (pss_cons (ps_if (pt_cmpR op_ne (pe_op op_add (pe_op op_sub (pe_def DC hr rfl (pa_cons (pv 0) (pa_cons pe_int pa_nil))) (pe_op op_fdiv (pe_callB (call_lenK K) (by rfl) T.len PySem.boot_len (pa_cons (pv 0) pa_nil)) pe_int)) (pv 1)) pe_int (nomark _)) (pss_one (ps_ret (pe_tup (pa_cons (pe_lst (pa_cons pe_bl (pa_cons pe_bl (pa_cons pe_bl pa_nil)))) (pa_cons (pv 1) pa_nil))))) pss_nil)
      (pss_one (ps_ret (pe_tup (pa_cons (pe_callTy (call_tuple_ofK K) rfl T.tuple boot_tuple' (pa_cons (pv 0) pa_nil)) (pa_cons pe_int pa_nil))))))), ?_⟩
    refine ⟨_, rfl, lt, ts, m, rfl, hlt, PT, tl, m8, fun H1 b s1 hb => ⟨_, rfl, ?_⟩⟩
    cases b with
    | false =>
      have jo : ¬ JnAll ts m := fun z => by have := hb.mpr z; cases this
      refine iteT ⟨by show 3 <= sizeLine; decide, fun l hl => ⟨by show 2 <= sizeLine; decide, fun g hg => ?_⟩⟩
      have s2 := Same.new (o := HO.lst [.bl false, .bl true, .bl false]) hl
      have s3 := Same.new (o := HO.tup [.ref l, .int 0]) hg
      exact q _ _ (s1.trans (s2.trans s3)) (.inl ⟨jo, g, l, rfl, upd_same, s3 _ _ upd_same⟩)
    | true =>
      have jo := hb.mp rfl
      refine iteF ?_
      refine ⟨_, rfl, lt, ts, 1, m, rfl, s1 _ _ hlt, PT, tl, m8, .inr rfl, fun H2 s2 => ?_⟩
      dsimp only [gName, List.set]
      have s12 := s1.trans s2
      refine ⟨_, rfl, lt, ts, 0, m, rfl, s12 _ _ hlt, PT, tl, m8, .inl rfl, fun H3 s3 => ?_⟩
      have s13 := s12.trans s3
      refine ⟨_, rfl, lt, _, rfl, .inl (SqL.of (s13 _ _ hlt)), _, _, rfl, rfl, ⟨by decide, by decide⟩, _, _, rfl, rfl, _, rfl, _, _, rfl, rfl, rfl, _, rfl, ?_⟩
      rw [List.length_map, ci_len, tl]
      have e0 : (rds (gal 0 ts) (2 * m)).length = nv ts m := rfl
      have e1 : (rds (gal 1 ts) (2 * m)).length = nf ts m := rfl
      rw [e0, e1]
      by_cases pn : nv ts m + nf ts m = m + 2
      · rw [decide_eq_true (show V.int ((nv ts m : Int) - ((2 * m : Nat) : Int) / 2 + (nf ts m : Int)) = V.int 2 by congr 1; lia)]
        refine iteF ⟨_, rfl, lt, _, rfl, .inl ⟨SqL.of (s13 _ _ hlt), fun t ht => ⟨by show 2 <= sizeLine; decide, fun g hg => ?_⟩⟩⟩
        have s4 := Same.new (o := HO.tup ((ci ts).map V.int)) ht
        have s5 := Same.new (o := HO.tup [.ref t, .int 0]) hg
        exact q _ _ (s13.trans (s4.trans s5)) (.inr (.inr ⟨jo, pn, g, t, rfl, upd_same, SqT.of (s5 _ _ upd_same)⟩))
      · rw [decide_eq_false (show ¬ V.int ((nv ts m : Int) - ((2 * m : Nat) : Int) / 2 + (nf ts m : Int)) = V.int 2 from fun z => by injection z with z; lia)]
        refine iteT ⟨by show 3 <= sizeLine; decide, fun l hl => ⟨_, rfl, by show 2 <= sizeLine; decide, fun g hg => ?_⟩⟩
        have s4 := Same.new (o := HO.lst [.bl false, .bl false, .bl true]) hl
        have s5 := Same.new (o := HO.tup [.ref l, .int (nf ts m : Int)]) hg
        exact q _ _ (s13.trans (s4.trans s5)) (.inr (.inl ⟨jo, pn, g, l, rfl, upd_same, s5 _ _ upd_same⟩))
end
def spLaw (K : W.Frag) : Sp := fun vs H Q _ => ∃ (a : Addr) (ns : List Int), vs = [.ref a] /\ SqL K H a (ns.map V.int) /\ ns.length <= 63 /\ ∀ H', Q (.bl true) H'
def rTupF (K : W.Frag) : List V -> Hp -> VK -> Prop := fun xs H Q => ∃ p ys, xs = [.ref p] /\ ((SqL K H p ys /\ ∀ (l : Addr) (o : Obj), o.cls = .type "tuple" -> o.dict = none -> H l = none -> Q (.ref l) (upd H l (.frz o (.tup ys)))) \/ (SqT K H p ys /\ Q (.ref p) H))
theorem call_tupleFK {X : Cx} {K : W.Frag} (h : X.K = K := by rfl) : CallR X (.type "tuple") (rTupF K) := h ▸ call_tupleF
theorem flatB (l : List Bool) : ∀ z ∈ l.map V.bl, flatV z = true := fun z hz => by
  obtain ⟨i, _, rfl⟩ := List.mem_map.mp hz
  rfl
theorem bools_same {K : W.Frag} {H : Hp} {g g' : Addr} {l : List Bool} (h : H g = some (.lst (l.map V.bl))) (h' : H g' = some (.lst (l.map V.bl))) : SameD K H 1 (.ref g) (.ref g') := .lst (SqL.of h) (SqL.of h') rfl fun i x y e1 e2 => by
  rw [e1] at e2
  cases e2
  exact .flat (flatB _ _ (List.mem_of_getElem? e1))
theorem ints_sameT {K : W.Frag} {H : Hp} {g g' : Addr} {ns : List Int} (h : SqT K H g (ns.map V.int)) (h' : SqT K H g' (ns.map V.int)) : SameD K H 1 (.ref g) (.ref g') := .tup h h' rfl fun i x y e1 e2 => by
  rw [e1] at e2
  cases e2
  exact .flat (flat_ints _ _ (List.mem_of_getElem? e1))
theorem two_same {K : W.Frag} {H : Hp} {g g' : Addr} {x y : V} {k : Int} (h : H g = some (.tup [x, .int k])) (h' : H g' = some (.tup [y, .int k])) (s : SameD K H 1 x y) {Q : VK} {out : Bool} (q : Q (.bl out) H) : rSame K out (.ref g) (.ref g') H Q := by
  refine ⟨g, g', _, _, 1, rfl, rfl, .inl ⟨SqT.of h, SqT.of h'⟩, rfl, by decide, fun i u v e1 e2 => ?_, q⟩
  match i with
  | 0 => simp at e1 e2; rw [<- e1, <- e2]; exact s
  | 1 => simp at e1 e2; rw [<- e1, <- e2]; exact .flat rfl
  | j + 2 => simp at e1
theorem due_same {K : W.Frag} {H : Hp} {v v' : V} {ts : List Nat} {m : Nat} (h : DueAt K H v ts m) (h' : DueAt K H v' ts m) {Q : VK} {out : Bool} (q : Q (.bl out) H) : rSame K out v v' H Q := by
  rcases h with ⟨a, g, l, rfl, h1, h2⟩ | ⟨a, b, g, l, rfl, h1, h2⟩ | ⟨a, b, g, l, rfl, h1, h2⟩
  · rcases h' with ⟨a', g', l', rfl, h3, h4⟩ | ⟨a', b', g', l', rfl, h3, h4⟩ | ⟨a', b', g', l', rfl, h3, h4⟩
    · exact two_same h1 h3 (bools_same h2 h4) q
    · exact absurd a' a
    · exact absurd a' a
  · rcases h' with ⟨a', g', l', rfl, h3, h4⟩ | ⟨a', b', g', l', rfl, h3, h4⟩ | ⟨a', b', g', l', rfl, h3, h4⟩
    · exact absurd a a'
    · exact two_same h1 h3 (bools_same h2 h4) q
    · exact absurd b' b
  · rcases h' with ⟨a', g', l', rfl, h3, h4⟩ | ⟨a', b', g', l', rfl, h3, h4⟩ | ⟨a', b', g', l', rfl, h3, h4⟩
    · exact absurd a a'
    · exact absurd b b'
    · exact two_same h1 h3 (ints_sameT h2 h4) q
theorem DueAt.same {K : W.Frag} {H H' : Hp} {v : V} {ts : List Nat} {m : Nat} (h : DueAt K H v ts m) (s : Same H H') : DueAt K H' v ts m := by
  rcases h with ⟨a, g, l, e, h1, h2⟩ | ⟨a, b, g, l, e, h1, h2⟩ | ⟨a, b, g, l, e, h1, h2⟩
  · exact .inl ⟨a, g, l, e, s _ _ h1, s _ _ h2⟩
  · exact .inr (.inl ⟨a, b, g, l, e, s _ _ h1, s _ _ h2⟩)
  · exact .inr (.inr ⟨a, b, g, l, e, s _ _ h1, sqT s h2⟩)
theorem DueAt.two {K : W.Frag} {H : Hp} {v : V} {ts : List Nat} {m : Nat} (h : DueAt K H v ts m) : ∃ g x k, v = .ref g /\ H g = some (.tup [x, .int k]) := by
  rcases h with ⟨a, g, l, e, h1, h2⟩ | ⟨a, b, g, l, e, h1, h2⟩ | ⟨a, b, g, l, e, h1, h2⟩
  · exact ⟨g, _, _, e, h1⟩
  · exact ⟨g, _, _, e, h1⟩
  · exact ⟨g, _, _, e, h1⟩
section
variable {P : Program} {w : World} {K : W.Frag} {mg : Str -> Option Value} {base : Heap}
seal PSs PS PE PI PA PT PG
theorem scLaw : FnScope ["_law_script", "_law_turns_here", "_law_thing", "_law_found", "_law_cell"] ["_law_script"] (defScope sLaw) := ⟨rfl, rfl, rfl, by decide +kernel, rfl, by decide +kernel, by decide +kernel⟩
theorem ok_law {f : Addr} {fd : FuncData} (F : Fun K "law" "law" sLaw f fd) (T : Txt K mg) (DA : Def P w K mg base 1 "_law_at" ["_law_script", "_law_k"] (spAt K)) (DT : Def P w K mg base 2 "_law_turns" ["_law_script"] (spTurns K)) (DS : Def P w K mg base 5 "_law_sort" ["_law_thing"] (spSortD K)) (DD : Def P w K mg base 3 "_law_due" ["_law_turns_here"] (spDue K)) (DB : Def P w K mg base 1 "_law_bad" ["_law_turns_here", "_law_cell"] (spBad K)) : FnOk P w K mg base CX0 6 f fd ["_law_script"] (spLaw K) := by
  refine F.ok scLaw (fun vs H Q E h => ?_) (fun cdv A outer s H vs Q E hr h => ?_)
  · obtain ⟨a, ns, rfl, _⟩ := h; rfl
  · obtain ⟨a, ns, rfl, hq, hlen, q⟩ := h
    have hr1 : Room 1 _ := hr.mono (by decide)
    have hr2 : Room 2 _ := hr.mono (by decide)
    have hr3 : Room 3 _ := hr.mono (by decide)
    refine ⟨_, pss_cons (ps_set (i := 1) scLaw.nd rfl (Or.inl rfl) (pe_def DT hr2 rfl (pa_cons (pv 0) pa_nil)))
      (pss_cons (ps_for PassesOwn.never rfl (pi_seqK K .l (pe_lst (pa_cons (pe_callTy (call_list_ofK K) rfl T.list boot_list' (pa_cons (pv 1) pa_nil)) (pa_cons (pe_callTy (call_tupleFK (K := K)) rfl T.tuple boot_tuple' (pa_cons (pv 1) pa_nil)) pa_nil)))) (pg_name (i := 2) scLaw.nd rfl (Or.inl rfl))
        (pss_cons (ps_set (i := 3) scLaw.nd rfl (Or.inl rfl) (pe_def DS hr rfl (pa_cons (pv 2) pa_nil)))
        (pss_one (ps_if (PW.pt (pw_or (pt_cmpR op_isN (pv 3) pe_non (nomark _)) (pw_or (pt_cmpR (op_neSK K (units66 hr)) (pv 3) (pe_def DD hr3 rfl (pa_cons (pv 1) pa_nil)) (nomark _)) (pw_or (pt_cmpR (op_neSK K (units66 hr)) (pe_callTy (call_list_ofK K) rfl T.list boot_list' (pa_cons (pv 2) pa_nil)) (pv 1) (nomark _)) (pw_or1 (pt_val (pe_callB (call_isiK K) (by rfl) T.isi boot_isi (pa_cons (pe_ix (ix_tupK K) (pv 3) pe_int (fun _ _ => rfl)) (pa_cons (pe_bltn (v := .ty "bool") rfl T.bool boot_bool' rfl) pa_nil))))))))) (pss_one (ps_ret pe_bl)) pss_nil))))
      (pss_cons (ps_for PassesOwn.never rfl (pi_seqK K .l (pe_op op_cat (pe_slice (sl_listK K) (pv 0) (po_some pe_int) (po_some pe_int)) (pe_lst (pa_cons (pe_def DA hr1 rfl (pa_cons (pv 0) (pa_cons pe_int pa_nil))) pa_nil)))) (pg_name (i := 4) scLaw.nd rfl (Or.inl rfl))
        (pss_one (ps_if (pt_cmpR (op_neSK K (units66 hr)) (pe_def DS hr rfl (pa_cons (pe_def DB hr1 rfl (pa_cons (pv 1) (pa_cons (pv 4) pa_nil))) pa_nil)) (pe_tup (pa_cons (pe_lst (pa_cons pe_bl (pa_cons pe_bl (pa_cons pe_bl pa_nil)))) (pa_cons pe_int pa_nil))) (nomark _)) (pss_one (ps_ret pe_bl)) pss_nil)))
      (pss_one (ps_ret pe_bl)))), ?_⟩
    refine seq_abs fun M hM => ?_
    refine ⟨_, rfl, a, ns, rfl, hq, fun lt ts m H1 s1 hlt tl PT m8 => ?_⟩
    show M [some (.ref a), some (.ref lt), none, none, none] H1
    refine hM _ _ ?_
    clear hM M
    refine seq_abs fun M hM => ?_
    refine ⟨_, rfl, lt, _, rfl, .inl (SqL.of hlt), fun l1 hl1 => ?_⟩
    have s2 := Same.new (o := HO.lst ((ci ts).map V.int)) hl1
    have h2 : (upd H1 l1 (.lst ((ci ts).map V.int))) l1 = some (.lst ((ci ts).map V.int)) := upd_same
    generalize upd H1 l1 (.lst ((ci ts).map V.int)) = H2 at s2 h2 ⊢
    refine ⟨_, rfl, lt, _, rfl, .inl ⟨SqL.of (s2 _ _ hlt), fun t1 ob oc od ht1 => ?_⟩⟩
    have s3 := Same.new (o := HO.frz ob (HO.tup ((ci ts).map V.int))) ht1
    have h3 : FzT (upd H2 t1 (HO.frz ob (HO.tup ((ci ts).map V.int)))) t1 ((ci ts).map V.int) := FzT.new oc od
    replace h2 := s3 _ _ h2
    replace s3 := s2.trans s3
    generalize upd H2 t1 (HO.frz ob (HO.tup ((ci ts).map V.int))) = H3 at s3 h2 h3 ⊢
    refine ⟨by show 2 <= sizeLine; decide, fun g hg => ?_⟩
    have s4 := Same.new (o := HO.lst [.ref l1, .ref t1]) hg
    have h4 : (upd H3 g (.lst [.ref l1, .ref t1])) g = some (.lst [.ref l1, .ref t1]) := upd_same
    replace h2 := s4 _ _ h2
    replace h3 := FzT.same h3 s4
    replace s4 := s3.trans s4
    generalize upd H3 g (.lst [.ref l1, .ref t1]) = H4 at s4 h2 h3 h4 ⊢
    have both : ∀ (j : Nat) (y : V), ([.ref l1, .ref t1] : List V)[j]? = some y -> ∃ (kd : Kd) (b : Addr), y = .ref b /\ HK kd H4 b ((ci ts).map V.int) := fun j y hy => by
      match j with
      | 0 => simp at hy; exact ⟨.l, l1, hy.symm, h2⟩
      | 1 => simp at hy; exact ⟨.t, t1, hy.symm, h3⟩
      | j + 2 => simp at hy
    refine ⟨g, rfl, ⟨_, SqL.of h4⟩, for_seq (k := .l) (K := K) (a := g) (xs := [.ref l1, .ref t1]) (fun j σ H' => (∃ u v, σ = [some (.ref a), some (.ref lt), u, v, none]) /\ Same H4 H') ⟨⟨_, _, rfl⟩, Same.refl _⟩ (fun j σ H' _ z => SqL.of (z.2 _ _ h4)) ?_ ?_⟩
    · rintro j y σ H5 hy ⟨⟨u, v, rfl⟩, s5⟩
      obtain ⟨kd, b, rfl, hb⟩ := both j y hy
      dsimp only [gName, List.set]
      refine ⟨_, rfl, .inl ⟨kd, b, ts, m, rfl, hb.same s5, tl, PT, m8, fun r H6 s6 hr6 => ?_⟩⟩
      dsimp only [gName, List.set]
      obtain ⟨gg, x0, k0, rfl, hgg⟩ := hr6.two
      have s56 := s5.trans s6
      refine ⟨_, rfl, rfl, _, rfl, ?_⟩
      rw [decide_eq_false (show ¬ V.ref gg = V.non from fun z => nomatch z)]
      refine iteF ⟨_, rfl, _, rfl, lt, ts, m, rfl, (s4.trans s56) _ _ hlt, PT, tl, m8, fun r2 H7 s7 hr7 => ?_⟩
      refine due_same (hr6.same s7) hr7 ⟨_, rfl, iteF ?_⟩
      have hb7 := hb.same (s56.trans s7)
      refine ⟨_, rfl, b, (ci ts).map V.int, rfl, ?_, fun l5 hl5 => ⟨_, rfl, ?_⟩⟩
      · cases kd with
        | l => exact .inl (SqL.of hb7)
        | t => exact .inr (FzT.sq hb7)
      have s8 := Same.new (o := HO.lst ((ci ts).map V.int)) hl5
      refine same_lstO (SqL.of upd_same) (SqL.of ((s4.trans (s56.trans (s7.trans s8))) _ _ hlt)) ⟨_, rfl, iteF ?_⟩
      refine ⟨_, rfl, gg, _, _, _, rfl, rfl, SqT.of ((s7.trans s8) _ _ hgg), atI_nat (j := 1) rfl, _, _, _, _, _, rfl, rfl, .int _, kp_intb K, _, rfl, iteF ⟨⟨_, _, rfl⟩, s56.trans (s7.trans s8)⟩⟩
    rintro σ H5 ⟨⟨u, v, rfl⟩, s5⟩
    refine hM _ _ ?_
    clear hM M both h2 h3 h4
    have so := s4.trans s5
    clear s4 s5 s3 s2
    replace hlt := so _ _ hlt
    replace s1 := s1.trans so
    clear so
    obtain ⟨ms, em, ml⟩ := cut_map ns (some 18) (some 30)
    refine seq_abs fun M hM => ?_
    refine ⟨_, rfl, _, rfl, _, rfl, a, _, rfl, s1.seq hq, fun q1 hq1 => ?_⟩
    rw [em]
    have s6 := Same.new (o := HO.lst (ms.map V.int)) hq1
    have h6 : (upd H5 q1 (.lst (ms.map V.int))) q1 = some (.lst (ms.map V.int)) := upd_same
    generalize upd H5 q1 (.lst (ms.map V.int)) = H6 at s6 h6 ⊢
    refine ⟨_, rfl, a, ns, 1, rfl, (s1.trans s6).seq hq, by show 1 <= sizeLine; decide, fun q2 hq2 => ?_⟩
    generalize ns.getD 1 0 = c1
    have s7 := Same.new (o := HO.lst [.int c1]) hq2
    have h7 : (upd H6 q2 (.lst [.int c1])) q2 = some (.lst [.int c1]) := upd_same
    replace h6 := s7 _ _ h6
    replace s7 := s6.trans s7
    generalize upd H6 q2 (.lst [.int c1]) = H7 at s7 h6 h7 ⊢
    refine ⟨q1, q2, _, _, rfl, rfl, h6, h7, by rw [List.length_map]; exact Nat.le_trans (show ms.length + 1 <= 100 by lia) (by decide), fun q3 hq3 => ?_⟩
    have e8 : ms.map V.int ++ [V.int c1] = (ms ++ [c1]).map V.int := by rw [List.map_append]; rfl
    rw [e8]
    have s8 := Same.new (o := HO.lst ((ms ++ [c1]).map V.int)) hq3
    have h8 : (upd H7 q3 (.lst ((ms ++ [c1]).map V.int))) q3 = some (.lst ((ms ++ [c1]).map V.int)) := upd_same
    replace s8 := s7.trans s8
    generalize upd H7 q3 (.lst ((ms ++ [c1]).map V.int)) = H8 at s8 h8 ⊢
    have pm : (ci ts).Perm (ups ((ci ts).length : Int)) := by
      rw [ci_len, tl]
      exact perm_ups tl PT
    refine ⟨q3, rfl, ⟨_, SqL.of h8⟩, for_seq (k := .l) (K := K) (a := q3) (xs := (ms ++ [c1]).map V.int) (fun j σ H' => (∃ u v z, σ = [some (.ref a), some (.ref lt), u, v, z]) /\ Same H8 H') ⟨⟨_, _, _, rfl⟩, Same.refl _⟩ (fun j σ H' _ z => SqL.of (z.2 _ _ h8)) ?_ ?_⟩
    · rintro j y σ H9 hy ⟨⟨u, v, z, rfl⟩, s9⟩
      obtain ⟨cell, _, rfl⟩ := get_int' hy
      dsimp only [gName, List.set]
      have so := s8.trans s9
      refine ⟨_, rfl, _, rfl, lt, ci ts, cell, rfl, so _ _ hlt, by rw [ci_len]; lia, pm, fun th H10 s10 hth => ?_⟩
      refine .inr ⟨th, rfl, fun k k8 => bad_of hth (bad_is pm (by rw [ci_len]; exact tl) m8 k8), fun r H11 s11 hr11 => ?_⟩
      refine ⟨by show 3 <= sizeLine; decide, fun l5 hl5 => ⟨by show 2 <= sizeLine; decide, fun g5 hg5 => ?_⟩⟩
      obtain ⟨gg, l, rfl, hgg, hl⟩ := hr11
      have s12 := Same.new (o := HO.lst [.bl true, .bl false, .bl false]) hl5
      have s13 := Same.new (o := HO.tup [.ref l5, .int 0]) hg5
      have s123 := s12.trans s13
      exact two_same (s123 _ _ hgg) upd_same (bools_same (s123 _ _ hl) (s13 _ _ upd_same)) ⟨_, rfl, iteF ⟨⟨_, _, _, rfl⟩, s9.trans (s10.trans (s11.trans s123))⟩⟩
    · rintro σ H9 ⟨⟨u, v, z, rfl⟩, s9⟩
      exact hM _ _ (q _)
end
def mroT (K : W.Frag) (C : Addr) : List Value := match K.lookup C with | some o => (match o.data with | .cls cd => cd.mro.tail | _ => []) | none => []
def cs85 (a b c : Addr) : Fin 3 -> Addr := fun i => match i with | 0 => a | 1 => b | 2 => c
def n85 (a b c d e f g h : Addr) : Fin 8 -> Addr := fun k => match k with | 0 => a | 1 => b | 2 => c | 3 => d | 4 => e | 5 => f | 6 => g | 7 => h
def o85 (a b c d : Addr) : Fin 4 -> Addr := fun k => match k with | 0 => a | 1 => b | 2 => c | 3 => d
def chk85b (K : W.Frag) (C0 C1 C2 CW : Addr) : Bool := excB K C0 (mroT K C0) && (excB K C1 (mroT K C1) && (excB K CW (mroT K CW) && (excIB K C2 (mroT K C2) && (hasDB K C2 && (PySem.W.readsIn K CW (.type "type") && mroVE K C2)))))
theorem chk85b_of {K : W.Frag} {C0 C1 C2 CW : Addr} (h : chk85b K C0 C1 C2 CW = true) : excB K C0 (mroT K C0) = true /\ excB K C1 (mroT K C1) = true /\ excB K CW (mroT K CW) = true /\ excIB K C2 (mroT K C2) = true /\ hasDB K C2 = true /\ PySem.W.readsIn K CW (.type "type") = true /\ mroVE K C2 = true := by
  unfold chk85b at h
  simp only [Bool.and_eq_true] at h
  exact h
def chk85 (K : W.Frag) (c : Fin 3 -> Addr) (n : Fin 8 -> Addr) (o : Fin 4 -> Addr) (Wc : Addr) : Bool := decide (∀ i, excKB K (c i) = true /\ PySem.W.subIn K (.ref (c i)) (.ref Wc) = some true /\ PySem.W.kitOne K (.ref (c i)) (.type "ValueError") = some true /\ (∀ j, PySem.W.kitOne K (.ref (c i)) (.ref (c j)) = some (decide (i = j))) /\ PySem.W.kitAny K (.ref (c i)) [.ref (n 0), .ref (n 1), .ref (n 2), .ref (n 3), .ref (n 4), .ref (n 5), .ref (n 6), .ref (n 7)] = some false /\ PySem.W.kitAny K (.ref (c i)) [.ref (o 0), .ref (o 1), .ref (o 2), .ref (o 3)] = some false)
theorem src_mk {K : W.Frag} {h : Heap} {mg : Str -> Option Value} {x : Str} {st : Stmt} {f : Addr} {ps : List Str} {oc : Value} {od an : Option Addr} {osl : Array (Option Value)} {kV doc pm cdv ct : Value} (X : K.In h) (G : h.Ns mainGlobals mg)
    (a : PySem.W.nsIn K mainGlobals x = some (some (.ref f))) (l : K.lookup f = some ⟨oc, od, .func (PySem.W.fnOf x x (defArgs st) (defBody st) (defScope st) .none kV doc pm an cdv ct), osl⟩) (c : PySem.W.codeIn K cdv x = true) (k : PySem.W.keepIn K (.ref f) = true)
    (hb : ∀ (kV doc pm : Value) (an : Option Addr) (cdv ct : Value) (us : List Value), us.length = ps.length -> bindArgs (PySem.W.fnOf x x (defArgs st) (defBody st) (defScope st) .none kV doc pm an cdv ct) ⟨us, []⟩ = pure (ps.zip us)) : Src K mg x st ps :=
  ⟨_, _, fun_mk (st := st) l c k, (fun_mk (st := st) l c k).binds hb, PySem.W.mg_of X G a⟩
theorem lenC {p : List Value -> Prop} {n : Nat} (h : ∀ (a : Value) (us : List Value), us.length = n -> p (a :: us)) : ∀ us : List Value, us.length = n + 1 -> p us := fun us hl => by
  cases us with
  | nil => cases hl
  | cons a us => exact h a us (Nat.succ.inj hl)
theorem len0 {p : List Value -> Prop} (h : p []) : ∀ us : List Value, us.length = 0 -> p us := fun us hl => by
  rw [List.length_eq_zero_iff.mp hl]
  exact h
theorem len1 {p : List Value -> Prop} (h : ∀ a, p [a]) : ∀ us : List Value, us.length = 1 -> p us := lenC fun a => len0 (p := fun us => p (a :: us)) (h a)
theorem len2 {p : List Value -> Prop} (h : ∀ a b, p [a, b]) : ∀ us : List Value, us.length = 2 -> p us := lenC fun a => len1 (p := fun us => p (a :: us)) (h a)
theorem len3 {p : List Value -> Prop} (h : ∀ a b c, p [a, b, c]) : ∀ us : List Value, us.length = 3 -> p us := lenC fun a => len2 (p := fun us => p (a :: us)) (h a)
theorem all_mk {l : PySem.W.OpenLaw} {w : World} {K : W.Frag} {h : Heap} {mg : Str -> Option Value} {fa : Addr} (X : K.In h) (G : h.Ns mainGlobals mg) (hfa : mg "law" = some (.ref fa))
    {f0 : Addr} {od0 an0 : Option Addr} {sl0 : Array (Option Value)} {oc0 kV0 dc0 pm0 cd0 ct0 : Value}
    (a0 : PySem.W.nsIn K mainGlobals "is_whole" = some (some (.ref f0))) (l0 : K.lookup f0 = some ⟨oc0, od0, .func (PySem.W.fnOf "is_whole" "is_whole" (defArgs sIsWhole) (defBody sIsWhole) (defScope sIsWhole) .none kV0 dc0 pm0 an0 cd0 ct0), sl0⟩) (c0 : PySem.W.codeIn K cd0 "is_whole" = true) (k0 : PySem.W.keepIn K (.ref f0) = true)
    {f1 : Addr} {od1 an1 : Option Addr} {sl1 : Array (Option Value)} {oc1 kV1 dc1 pm1 cd1 ct1 : Value}
    (a1 : PySem.W.nsIn K mainGlobals "is_each_once" = some (some (.ref f1))) (l1 : K.lookup f1 = some ⟨oc1, od1, .func (PySem.W.fnOf "is_each_once" "is_each_once" (defArgs sEach) (defBody sEach) (defScope sEach) .none kV1 dc1 pm1 an1 cd1 ct1), sl1⟩) (c1 : PySem.W.codeIn K cd1 "is_each_once" = true) (k1 : PySem.W.keepIn K (.ref f1) = true)
    {f2 : Addr} {od2 an2 : Option Addr} {sl2 : Array (Option Value)} {oc2 kV2 dc2 pm2 cd2 ct2 : Value}
    (a2 : PySem.W.nsIn K mainGlobals "lesser_first" = some (some (.ref f2))) (l2 : K.lookup f2 = some ⟨oc2, od2, .func (PySem.W.fnOf "lesser_first" "lesser_first" (defArgs sLesser) (defBody sLesser) (defScope sLesser) .none kV2 dc2 pm2 an2 cd2 ct2), sl2⟩) (c2 : PySem.W.codeIn K cd2 "lesser_first" = true) (k2 : PySem.W.keepIn K (.ref f2) = true)
    {f3 : Addr} {od3 an3 : Option Addr} {sl3 : Array (Option Value)} {oc3 kV3 dc3 pm3 cd3 ct3 : Value}
    (a3 : PySem.W.nsIn K mainGlobals "whole_pick" = some (some (.ref f3))) (l3 : K.lookup f3 = some ⟨oc3, od3, .func (PySem.W.fnOf "whole_pick" "whole_pick" (defArgs sWhole) (defBody sWhole) (defScope sWhole) .none kV3 dc3 pm3 an3 cd3 ct3), sl3⟩) (c3 : PySem.W.codeIn K cd3 "whole_pick" = true) (k3 : PySem.W.keepIn K (.ref f3) = true)
    {f4 : Addr} {od4 an4 : Option Addr} {sl4 : Array (Option Value)} {oc4 kV4 dc4 pm4 cd4 ct4 : Value}
    (a4 : PySem.W.nsIn K mainGlobals "heads_of" = some (some (.ref f4))) (l4 : K.lookup f4 = some ⟨oc4, od4, .func (PySem.W.fnOf "heads_of" "heads_of" (defArgs sHeads) (defBody sHeads) (defScope sHeads) .none kV4 dc4 pm4 an4 cd4 ct4), sl4⟩) (c4 : PySem.W.codeIn K cd4 "heads_of" = true) (k4 : PySem.W.keepIn K (.ref f4) = true)
    {f5 : Addr} {od5 an5 : Option Addr} {sl5 : Array (Option Value)} {oc5 kV5 dc5 pm5 cd5 ct5 : Value}
    (a5 : PySem.W.nsIn K mainGlobals "clusters_of" = some (some (.ref f5))) (l5 : K.lookup f5 = some ⟨oc5, od5, .func (PySem.W.fnOf "clusters_of" "clusters_of" (defArgs sClus) (defBody sClus) (defScope sClus) .none kV5 dc5 pm5 an5 cd5 ct5), sl5⟩) (c5 : PySem.W.codeIn K cd5 "clusters_of" = true) (k5 : PySem.W.keepIn K (.ref f5) = true)
    {f6 : Addr} {od6 an6 : Option Addr} {sl6 : Array (Option Value)} {oc6 kV6 dc6 pm6 cd6 ct6 : Value}
    (a6 : PySem.W.nsIn K mainGlobals "points_under" = some (some (.ref f6))) (l6 : K.lookup f6 = some ⟨oc6, od6, .func (PySem.W.fnOf "points_under" "points_under" (defArgs sUnder) (defBody sUnder) (defScope sUnder) .none kV6 dc6 pm6 an6 cd6 ct6), sl6⟩) (c6 : PySem.W.codeIn K cd6 "points_under" = true) (k6 : PySem.W.keepIn K (.ref f6) = true)
    {f7 : Addr} {od7 an7 : Option Addr} {sl7 : Array (Option Value)} {oc7 kV7 dc7 pm7 cd7 ct7 : Value}
    (a7 : PySem.W.nsIn K mainGlobals "is_joined" = some (some (.ref f7))) (l7 : K.lookup f7 = some ⟨oc7, od7, .func (PySem.W.fnOf "is_joined" "is_joined" (defArgs sJoined) (defBody sJoined) (defScope sJoined) .none kV7 dc7 pm7 an7 cd7 ct7), sl7⟩) (c7 : PySem.W.codeIn K cd7 "is_joined" = true) (k7 : PySem.W.keepIn K (.ref f7) = true)
    {f8 : Addr} {od8 an8 : Option Addr} {sl8 : Array (Option Value)} {oc8 kV8 dc8 pm8 cd8 ct8 : Value}
    (a8 : PySem.W.nsIn K mainGlobals "drawing_of" = some (some (.ref f8))) (l8 : K.lookup f8 = some ⟨oc8, od8, .func (PySem.W.fnOf "drawing_of" "drawing_of" (defArgs sDrawing) (defBody sDrawing) (defScope sDrawing) .none kV8 dc8 pm8 an8 cd8 ct8), sl8⟩) (c8 : PySem.W.codeIn K cd8 "drawing_of" = true) (k8 : PySem.W.keepIn K (.ref f8) = true)
    {f9 : Addr} {od9 an9 : Option Addr} {sl9 : Array (Option Value)} {oc9 kV9 dc9 pm9 cd9 ct9 : Value}
    (a9 : PySem.W.nsIn K mainGlobals "web_of" = some (some (.ref f9))) (l9 : K.lookup f9 = some ⟨oc9, od9, .func (PySem.W.fnOf "web_of" "web_of" (defArgs sWebOf) (defBody sWebOf) (defScope sWebOf) .none kV9 dc9 pm9 an9 cd9 ct9), sl9⟩) (c9 : PySem.W.codeIn K cd9 "web_of" = true) (k9 : PySem.W.keepIn K (.ref f9) = true)
    {f10 : Addr} {od10 an10 : Option Addr} {sl10 : Array (Option Value)} {oc10 kV10 dc10 pm10 cd10 ct10 : Value}
    (a10 : PySem.W.nsIn K mainGlobals "rounds_of" = some (some (.ref f10))) (l10 : K.lookup f10 = some ⟨oc10, od10, .func (PySem.W.fnOf "rounds_of" "rounds_of" (defArgs sRounds) (defBody sRounds) (defScope sRounds) .none kV10 dc10 pm10 an10 cd10 ct10), sl10⟩) (c10 : PySem.W.codeIn K cd10 "rounds_of" = true) (k10 : PySem.W.keepIn K (.ref f10) = true)
    {f11 : Addr} {od11 an11 : Option Addr} {sl11 : Array (Option Value)} {oc11 kV11 dc11 pm11 cd11 ct11 : Value}
    (a11 : PySem.W.nsIn K mainGlobals "round_from" = some (some (.ref f11))) (l11 : K.lookup f11 = some ⟨oc11, od11, .func (PySem.W.fnOf "round_from" "round_from" (defArgs sRound) (defBody sRound) (defScope sRound) .none kV11 dc11 pm11 an11 cd11 ct11), sl11⟩) (c11 : PySem.W.codeIn K cd11 "round_from" = true) (k11 : PySem.W.keepIn K (.ref f11) = true)
    {f12 : Addr} {od12 an12 : Option Addr} {sl12 : Array (Option Value)} {oc12 kV12 dc12 pm12 cd12 ct12 : Value}
    (a12 : PySem.W.nsIn K mainGlobals "lands_of" = some (some (.ref f12))) (l12 : K.lookup f12 = some ⟨oc12, od12, .func (PySem.W.fnOf "lands_of" "lands_of" (defArgs sLands) (defBody sLands) (defScope sLands) .none kV12 dc12 pm12 an12 cd12 ct12), sl12⟩) (c12 : PySem.W.codeIn K cd12 "lands_of" = true) (k12 : PySem.W.keepIn K (.ref f12) = true)
    {f13 : Addr} {od13 an13 : Option Addr} {sl13 : Array (Option Value)} {oc13 kV13 dc13 pm13 cd13 ct13 : Value}
    (a13 : PySem.W.nsIn K mainGlobals "other_one" = some (some (.ref f13))) (l13 : K.lookup f13 = some ⟨oc13, od13, .func (PySem.W.fnOf "other_one" "other_one" (defArgs sOther) (defBody sOther) (defScope sOther) .none kV13 dc13 pm13 an13 cd13 ct13), sl13⟩) (c13 : PySem.W.codeIn K cd13 "other_one" = true) (k13 : PySem.W.keepIn K (.ref f13) = true)
    {f14 : Addr} {od14 an14 : Option Addr} {sl14 : Array (Option Value)} {oc14 kV14 dc14 pm14 cd14 ct14 : Value}
    (a14 : PySem.W.nsIn K mainGlobals "mate_of" = some (some (.ref f14))) (l14 : K.lookup f14 = some ⟨oc14, od14, .func (PySem.W.fnOf "mate_of" "mate_of" (defArgs sMate) (defBody sMate) (defScope sMate) .none kV14 dc14 pm14 an14 cd14 ct14), sl14⟩) (c14 : PySem.W.codeIn K cd14 "mate_of" = true) (k14 : PySem.W.keepIn K (.ref f14) = true)
    {f15 : Addr} {od15 an15 : Option Addr} {sl15 : Array (Option Value)} {oc15 kV15 dc15 pm15 cd15 ct15 : Value}
    (a15 : PySem.W.nsIn K mainGlobals "_law_at" = some (some (.ref f15))) (l15 : K.lookup f15 = some ⟨oc15, od15, .func (PySem.W.fnOf "_law_at" "_law_at" (defArgs sAt) (defBody sAt) (defScope sAt) .none kV15 dc15 pm15 an15 cd15 ct15), sl15⟩) (c15 : PySem.W.codeIn K cd15 "_law_at" = true) (k15 : PySem.W.keepIn K (.ref f15) = true)
    {f16 : Addr} {od16 an16 : Option Addr} {sl16 : Array (Option Value)} {oc16 kV16 dc16 pm16 cd16 ct16 : Value}
    (a16 : PySem.W.nsIn K mainGlobals "_law_round" = some (some (.ref f16))) (l16 : K.lookup f16 = some ⟨oc16, od16, .func (PySem.W.fnOf "_law_round" "_law_round" (defArgs sLRound) (defBody sLRound) (defScope sLRound) .none kV16 dc16 pm16 an16 cd16 ct16), sl16⟩) (c16 : PySem.W.codeIn K cd16 "_law_round" = true) (k16 : PySem.W.keepIn K (.ref f16) = true)
    {f17 : Addr} {od17 an17 : Option Addr} {sl17 : Array (Option Value)} {oc17 kV17 dc17 pm17 cd17 ct17 : Value}
    (a17 : PySem.W.nsIn K mainGlobals "_law_count" = some (some (.ref f17))) (l17 : K.lookup f17 = some ⟨oc17, od17, .func (PySem.W.fnOf "_law_count" "_law_count" (defArgs sCount) (defBody sCount) (defScope sCount) .none kV17 dc17 pm17 an17 cd17 ct17), sl17⟩) (c17 : PySem.W.codeIn K cd17 "_law_count" = true) (k17 : PySem.W.keepIn K (.ref f17) = true)
    {f18 : Addr} {od18 an18 : Option Addr} {sl18 : Array (Option Value)} {oc18 kV18 dc18 pm18 cd18 ct18 : Value}
    (a18 : PySem.W.nsIn K mainGlobals "_law_joined" = some (some (.ref f18))) (l18 : K.lookup f18 = some ⟨oc18, od18, .func (PySem.W.fnOf "_law_joined" "_law_joined" (defArgs sLJoined) (defBody sLJoined) (defScope sLJoined) .none kV18 dc18 pm18 an18 cd18 ct18), sl18⟩) (c18 : PySem.W.codeIn K cd18 "_law_joined" = true) (k18 : PySem.W.keepIn K (.ref f18) = true)
    {f19 : Addr} {od19 an19 : Option Addr} {sl19 : Array (Option Value)} {oc19 kV19 dc19 pm19 cd19 ct19 : Value}
    (a19 : PySem.W.nsIn K mainGlobals "_law_turns" = some (some (.ref f19))) (l19 : K.lookup f19 = some ⟨oc19, od19, .func (PySem.W.fnOf "_law_turns" "_law_turns" (defArgs sTurns) (defBody sTurns) (defScope sTurns) .none kV19 dc19 pm19 an19 cd19 ct19), sl19⟩) (c19 : PySem.W.codeIn K cd19 "_law_turns" = true) (k19 : PySem.W.keepIn K (.ref f19) = true)
    {f20 : Addr} {od20 an20 : Option Addr} {sl20 : Array (Option Value)} {oc20 kV20 dc20 pm20 cd20 ct20 : Value}
    (a20 : PySem.W.nsIn K mainGlobals "_law_bad" = some (some (.ref f20))) (l20 : K.lookup f20 = some ⟨oc20, od20, .func (PySem.W.fnOf "_law_bad" "_law_bad" (defArgs sBad) (defBody sBad) (defScope sBad) .none kV20 dc20 pm20 an20 cd20 ct20), sl20⟩) (c20 : PySem.W.codeIn K cd20 "_law_bad" = true) (k20 : PySem.W.keepIn K (.ref f20) = true)
    {f21 : Addr} {od21 an21 : Option Addr} {sl21 : Array (Option Value)} {oc21 kV21 dc21 pm21 cd21 ct21 : Value}
    (a21 : PySem.W.nsIn K mainGlobals "_law_sort" = some (some (.ref f21))) (l21 : K.lookup f21 = some ⟨oc21, od21, .func (PySem.W.fnOf "_law_sort" "_law_sort" (defArgs sSort) (defBody sSort) (defScope sSort) .none kV21 dc21 pm21 an21 cd21 ct21), sl21⟩) (c21 : PySem.W.codeIn K cd21 "_law_sort" = true) (k21 : PySem.W.keepIn K (.ref f21) = true)
    {f22 : Addr} {od22 an22 : Option Addr} {sl22 : Array (Option Value)} {oc22 kV22 dc22 pm22 cd22 ct22 : Value}
    (a22 : PySem.W.nsIn K mainGlobals "_law_due" = some (some (.ref f22))) (l22 : K.lookup f22 = some ⟨oc22, od22, .func (PySem.W.fnOf "_law_due" "_law_due" (defArgs sDue) (defBody sDue) (defScope sDue) .none kV22 dc22 pm22 an22 cd22 ct22), sl22⟩) (c22 : PySem.W.codeIn K cd22 "_law_due" = true) (k22 : PySem.W.keepIn K (.ref f22) = true)
    {f23 : Addr} {od23 an23 : Option Addr} {sl23 : Array (Option Value)} {oc23 kV23 dc23 pm23 cd23 ct23 : Value}
    (a23 : PySem.W.nsIn K mainGlobals "law" = some (some (.ref f23))) (l23 : K.lookup f23 = some ⟨oc23, od23, .func (PySem.W.fnOf "law" "law" (defArgs sLaw) (defBody sLaw) (defScope sLaw) .none kV23 dc23 pm23 an23 cd23 ct23), sl23⟩) (c23 : PySem.W.codeIn K cd23 "law" = true) (k23 : PySem.W.keepIn K (.ref f23) = true)
    (z0 : PySem.W.nsIn K mainGlobals "isinstance" = some none)
    (z1 : PySem.W.nsIn K mainGlobals "int" = some none)
    (z2 : PySem.W.nsIn K mainGlobals "bool" = some none)
    (z3 : PySem.W.nsIn K mainGlobals "len" = some none)
    (z4 : PySem.W.nsIn K mainGlobals "tuple" = some none)
    (z5 : PySem.W.nsIn K mainGlobals "all" = some none)
    (z6 : PySem.W.nsIn K mainGlobals "list" = some none)
    (z7 : PySem.W.nsIn K mainGlobals "min" = some none)
    (z8 : PySem.W.nsIn K mainGlobals "max" = some none)
    (z9 : PySem.W.nsIn K mainGlobals "range" = some none)
    (z10 : PySem.W.nsIn K mainGlobals "set" = some none)
    (z11 : PySem.W.nsIn K mainGlobals "sorted" = some none)
    (z12 : PySem.W.nsIn K mainGlobals "any" = some none)
    (z13 : PySem.W.nsIn K mainGlobals "str" = some none)
    (z14 : PySem.W.nsIn K mainGlobals "ValueError" = some none)
    (z15 : PySem.W.nsIn K mainGlobals "enumerate" = some none)
    {ti0 : Tok} (y0 : PySem.W.nsIn K mainGlobals "MOST_TIES" = some (some (.int 8 ti0)))
    {C0 : Addr} (q0 : PySem.W.nsIn K mainGlobals "NoDrawing" = some (some (.ref C0)))
    {C1 : Addr} (q1 : PySem.W.nsIn K mainGlobals "NotJoined" = some (some (.ref C1)))
    {C2 : Addr} (q2 : PySem.W.nsIn K mainGlobals "NotPlane" = some (some (.ref C2)))
    {N0 : Addr} (qN0 : PySem.W.nsIn K mainGlobals "NoNumber" = some (some (.ref N0)))
    {N1 : Addr} (qN1 : PySem.W.nsIn K mainGlobals "NoOrder" = some (some (.ref N1)))
    {N2 : Addr} (qN2 : PySem.W.nsIn K mainGlobals "NoPlaces" = some (some (.ref N2)))
    {N3 : Addr} (qN3 : PySem.W.nsIn K mainGlobals "NoPoint" = some (some (.ref N3)))
    {N4 : Addr} (qN4 : PySem.W.nsIn K mainGlobals "NoSuch" = some (some (.ref N4)))
    {N5 : Addr} (qN5 : PySem.W.nsIn K mainGlobals "NoText" = some (some (.ref N5)))
    {N6 : Addr} (qN6 : PySem.W.nsIn K mainGlobals "NoTie" = some (some (.ref N6)))
    {N7 : Addr} (qN7 : PySem.W.nsIn K mainGlobals "NotApart" = some (some (.ref N7)))
    {O0 : Addr} (qO0 : PySem.W.nsIn K mainGlobals "NoName" = some (some (.ref O0)))
    {O1 : Addr} (qO1 : PySem.W.nsIn K mainGlobals "NoRow" = some (some (.ref O1)))
    {O2 : Addr} (qO2 : PySem.W.nsIn K mainGlobals "TooMany" = some (some (.ref O2)))
    {O3 : Addr} (qO3 : PySem.W.nsIn K mainGlobals "NoWeb" = some (some (.ref O3)))
    {CW : Addr} (qw : PySem.W.nsIn K mainGlobals "WebError" = some (some (.ref CW)))
    (x1 : chk85b K C0 C1 C2 CW = true)
    (x2 : chk85 K (cs85 C0 C1 C2) (n85 N0 N1 N2 N3 N4 N5 N6 N7) (o85 O0 O1 O2 O3) CW = true)
    (n3 : PySem.W.findIn K (.ref C2) "lands" = some none)
    (s3 : PySem.W.findIn K (.ref C2) "__setattr__" = some (some (.builtin "object.__setattr__")))
    (s1 : PySem.W.specialIn K (.ref CW) "__getattribute__" = some (some (.builtin "type.__getattribute__")))
    (f1 : PySem.W.findCls K (.ref CW) (.type "type") "__init__" = some (.val (.builtin "ValueError.__init__")))
    {fNI : Addr} {odNI anNI : Option Addr} {slNI : Array (Option Value)} {kVNI dcNI pmNI cdNI ctNI : Value} (aNI : PySem.W.findIn K (.ref C2) "__init__" = some (some (.ref fNI)))
    (lNI : K.lookup fNI = some ⟨.type "function", odNI, .func (PySem.W.fnOf "__init__" "NotPlane.__init__" (defArgs sNInit) (defBody sNInit) (defScope sNInit) .none kVNI dcNI pmNI anNI cdNI ctNI), slNI⟩)
    (cNI : PySem.W.codeIn K cdNI "NotPlane.__init__" = true)
    (kNI : PySem.W.keepIn K (.ref fNI) = true)
    : ∃ fd : FuncData, (∀ (s : Shared) (v : Value), BindsTo s fd ⟨[v], []⟩ [("_law_script", v)]) /\ ∀ base : Heap, K.In base -> base.Ns mainGlobals mg -> FnOk l.prog w K mg base CX0 6 fa fd ["_law_script"] (spLaw K) := by
  have e := hfa.symm.trans (PySem.W.mg_of X G a23)
  cases e
  have S0 : Src K mg "is_whole" sIsWhole ["thing"] := src_mk X G a0 l0 c0 k0 fun _ _ _ _ _ _ => len1 (fun _ => rfl)
  have S1 : Src K mg "is_each_once" sEach ["thing", "many"] := src_mk X G a1 l1 c1 k1 fun _ _ _ _ _ _ => len2 (fun _ _ => rfl)
  have S2 : Src K mg "lesser_first" sLesser ["a", "b"] := src_mk X G a2 l2 c2 k2 fun _ _ _ _ _ _ => len2 (fun _ _ => rfl)
  have S3 : Src K mg "whole_pick" sWhole ["web"] := src_mk X G a3 l3 c3 k3 fun _ _ _ _ _ _ => len1 (fun _ => rfl)
  have S4 : Src K mg "heads_of" sHeads ["web", "pick"] := src_mk X G a4 l4 c4 k4 fun _ _ _ _ _ _ => len2 (fun _ _ => rfl)
  have S5 : Src K mg "clusters_of" sClus ["web", "pick"] := src_mk X G a5 l5 c5 k5 fun _ _ _ _ _ _ => len2 (fun _ _ => rfl)
  have S6 : Src K mg "points_under" sUnder ["heads", "head"] := src_mk X G a6 l6 c6 k6 fun _ _ _ _ _ _ => len2 (fun _ _ => rfl)
  have S7 : Src K mg "is_joined" sJoined ["web"] := src_mk X G a7 l7 c7 k7 fun _ _ _ _ _ _ => len1 (fun _ => rfl)
  have S8 : Src K mg "drawing_of" sDrawing ["turns"] := src_mk X G a8 l8 c8 k8 fun _ _ _ _ _ _ => len1 (fun _ => rfl)
  have S9 : Src K mg "web_of" sWebOf ["drawing"] := src_mk X G a9 l9 c9 k9 fun _ _ _ _ _ _ => len1 (fun _ => rfl)
  have S10 : Src K mg "rounds_of" sRounds ["drawing"] := src_mk X G a10 l10 c10 k10 fun _ _ _ _ _ _ => len1 (fun _ => rfl)
  have S11 : Src K mg "round_from" sRound ["drawing", "start"] := src_mk X G a11 l11 c11 k11 fun _ _ _ _ _ _ => len2 (fun _ _ => rfl)
  have S12 : Src K mg "lands_of" sLands ["drawing"] := src_mk X G a12 l12 c12 k12 fun _ _ _ _ _ _ => len1 (fun _ => rfl)
  have S13 : Src K mg "other_one" sOther ["drawing"] := src_mk X G a13 l13 c13 k13 fun _ _ _ _ _ _ => len1 (fun _ => rfl)
  have S14 : Src K mg "mate_of" sMate ["end"] := src_mk X G a14 l14 c14 k14 fun _ _ _ _ _ _ => len1 (fun _ => rfl)
  have S15 : Src K mg "_law_at" sAt ["_law_script", "_law_k"] := src_mk X G a15 l15 c15 k15 fun _ _ _ _ _ _ => len2 (fun _ _ => rfl)
  have S16 : Src K mg "_law_round" sLRound ["_law_turns_here", "_law_first", "_law_along"] := src_mk X G a16 l16 c16 k16 fun _ _ _ _ _ _ => len3 (fun _ _ _ => rfl)
  have S17 : Src K mg "_law_count" sCount ["_law_turns_here", "_law_along"] := src_mk X G a17 l17 c17 k17 fun _ _ _ _ _ _ => len2 (fun _ _ => rfl)
  have S18 : Src K mg "_law_joined" sLJoined ["_law_turns_here"] := src_mk X G a18 l18 c18 k18 fun _ _ _ _ _ _ => len1 (fun _ => rfl)
  have S19 : Src K mg "_law_turns" sTurns ["_law_script"] := src_mk X G a19 l19 c19 k19 fun _ _ _ _ _ _ => len1 (fun _ => rfl)
  have S20 : Src K mg "_law_bad" sBad ["_law_turns_here", "_law_cell"] := src_mk X G a20 l20 c20 k20 fun _ _ _ _ _ _ => len2 (fun _ _ => rfl)
  have S21 : Src K mg "_law_sort" sSort ["_law_thing"] := src_mk X G a21 l21 c21 k21 fun _ _ _ _ _ _ => len1 (fun _ => rfl)
  have S22 : Src K mg "_law_due" sDue ["_law_turns_here"] := src_mk X G a22 l22 c22 k22 fun _ _ _ _ _ _ => len1 (fun _ => rfl)
  have T : Txt K mg := ⟨PySem.W.mg_none_of X G z0, PySem.W.mg_none_of X G z1, PySem.W.mg_none_of X G z2, PySem.W.mg_none_of X G z3, PySem.W.mg_none_of X G z4, PySem.W.mg_none_of X G z5, PySem.W.mg_none_of X G z6, PySem.W.mg_none_of X G z7, PySem.W.mg_none_of X G z8, PySem.W.mg_none_of X G z9, PySem.W.mg_none_of X G z10, PySem.W.mg_none_of X G z11⟩
  have hany : mg "any" = none := PySem.W.mg_none_of X G z12
  have hen : mg "enumerate" = none := PySem.W.mg_none_of X G z15
  obtain ⟨x1a, x1b, x1w, x1e, x1f, x1g, x1h⟩ := chk85b_of x1
  have x3 := of_decide_eq_true x2
  have XR : ExcR K mg (cs85 C0 C1 C2) (n85 N0 N1 N2 N3 N4 N5 N6 N7) (o85 O0 O1 O2 O3) CW (mroT K CW) := ⟨PySem.W.mg_of X G q0, PySem.W.mg_of X G q1, PySem.W.mg_of X G q2, PySem.W.mg_of X G qN0, PySem.W.mg_of X G qN1, PySem.W.mg_of X G qN2, PySem.W.mg_of X G qN3, PySem.W.mg_of X G qN4, PySem.W.mg_of X G qN5, PySem.W.mg_of X G qN6, PySem.W.mg_of X G qN7, PySem.W.mg_of X G qO0, PySem.W.mg_of X G qO1, PySem.W.mg_of X G qO2, PySem.W.mg_of X G qO3, PySem.W.mg_of X G qw, PySem.W.mg_none_of X G z14, x1w, fun i => (x3 i).1, fun i => (x3 i).2.1, fun i => (x3 i).2.2.1, fun i => (x3 i).2.2.2.1, fun i => (x3 i).2.2.2.2.1, fun i => (x3 i).2.2.2.2.2, n3, x1f⟩
  have NN : NT K mg C2 CW (mroT K C2) := ⟨PySem.W.mg_of X G q2, PySem.W.mg_of X G qw, x1e, ⟨fNI, _, _, aNI, lNI, rfl, fun_mk (st := sNInit) lNI cNI kNI, (fun_mk (st := sNInit) lNI cNI kNI).binds fun _ _ _ _ _ _ => len2 (fun _ _ => rfl)⟩, s1, x1g, f1, s3, x1h, n3⟩
  refine ⟨PySem.W.fnOf "law" "law" (defArgs sLaw) (defBody sLaw) (defScope sLaw) .none kV23 dc23 pm23 an23 cd23 ct23, fun s v => .of_eq rfl, fun base _ _ => ?_⟩
  have WI : Def l.prog w K mg base 1 _ _ _ := d_wholeI T S0
  have WP : Def l.prog w K mg base 1 _ _ _ := d_wholeP T S0
  have EG : Def l.prog w K mg base 2 _ _ _ := d_once T S1 WI
  have EB : Def l.prog w K mg base 2 _ _ _ := d_onceB T S1 WP
  have LF : Def l.prog w K mg base 1 _ _ _ := d_lesser S2
  have WH : Def l.prog w K mg base 1 _ _ _ := d_wp T S3
  have HE : Def l.prog w K mg base 1 _ _ _ := d_heads T S4
  have UN : Def l.prog w K mg base 1 _ _ _ := d_under T hen S6
  have CL : Def l.prog w K mg base 2 _ _ _ := d_clus T T.set T.sorted S5 HE UN
  have JO : Def l.prog w K mg base 3 _ _ _ := d_joined T S7 CL WH
  have RF : Def l.prog w K mg base 1 _ _ _ := d_round S11
  have RO : Def l.prog w K mg base 2 _ _ _ := d_rounds T S10 RF
  have MA : Def l.prog w K mg base 1 _ _ _ := d_mate S14
  have OT : Def l.prog w K mg base 2 _ _ _ := d_other T S13 MA
  have LA : Def l.prog w K mg base 3 _ _ _ := d_lands S12 RO OT
  have WO : Def l.prog w K mg base 3 _ _ _ := d_webof T hen S9 RO LF
  have DQ : DefQ l.prog w K mg base 4 _ _ _ := d_drawQ T hany (PySem.W.mg_of X G y0) XR.s0 x1a XR.s1 x1b NN S8 EG WO JO LA
  have DB : DefQ l.prog w K mg base 4 _ _ _ := d_drawB T hany (PySem.W.mg_of X G y0) XR.s0 x1a XR.s1 x1b NN S8 EB WO JO LA
  have AT : Def l.prog w K mg base 1 _ _ _ := d_at T S15
  have LR : Def l.prog w K mg base 1 _ _ _ := d_lround S16
  have CO : Def l.prog w K mg base 2 _ _ _ := d_count T S17 LR
  have LJ : Def l.prog w K mg base 1 _ _ _ := d_ljoined T S18
  have TU : Def l.prog w K mg base 2 _ _ _ := d_turns T S19 AT
  have BA : Def l.prog w K mg base 1 _ _ _ := d_bad T (PySem.W.mg_none_of X G z13) (by first | rfl | decide +kernel) S20
  have SO : Def l.prog w K mg base 5 _ _ _ := d_sortD T XR S21 DQ DB
  have DU : Def l.prog w K mg base 3 _ _ _ := d_due T S22 LJ CO
  exact ok_law (fun_mk (st := sLaw) l23 c23 k23) T AT TU SO DU BA
theorem walk {l : PySem.W.OpenLaw} {q : Program} {loose : List Str} {XP : (Str -> Option Value) -> Heap -> Prop} {YP : World -> Heap -> Prop} {d : DefRec} {K : Params -> PySem.W.Frag} (hn : l.most = some 63) (hdf : d.params.defaults = [])
    (hY : ∀ (w : World) (h : Heap), YP w h -> (K w.params).In h)
    (F : ∀ (w : World) (mg : Str -> Option Value) (fa : Addr) (h : Heap), (K w.params).In h -> h.Ns mainGlobals mg -> mg d.name = some (.ref fa) ->
      ∃ fd : FuncData, (∀ (s : Shared) (u : Value), BindsTo s fd ⟨[u], []⟩ [("_law_script", u)]) /\ ∀ base : Heap, (K w.params).In base -> base.Ns mainGlobals mg -> FnOk l.prog w (K w.params) mg base CX0 6 fa fd ["_law_script"] (spLaw (K w.params))) :
    PySem.W.WalkO q loose XP YP l.row.toRowW d [] (fun f vs => PySem.call f vs) :=
  L2.walk_of (n := 63) (k := 6) (x := "_law_script") (CX := fun _ => CX0) (sp := fun w => spLaw (K w.params)) hn (by decide) hdf ⟨rfl, by decide, by decide⟩ hY F (fun _ _ a ns hl _ hS => ⟨a, ns, rfl, hS, hl, fun _ => rfl⟩) fun _ _ _ _ _ z => z
end My
def PySem.W.Fast.tw14596075952702797762 : Unit := ()
def PySem.W.Fast.tw18413605493866779197 : Unit := ()
def PySem.W.Fast.tw12195259247723282696 : Unit := ()
def PySem.W.Fast.tw13550544779651069156 : Unit := ()
def PySem.W.Fast.tw10134853253698911590 : Unit := ()
def PySem.W.Fast.tw14650352900219328654 : Unit := ()
def PySem.W.Fast.tw3138589039872310457 : Unit := ()
def PySem.W.Fast.tw8414145676627599381 : Unit := ()
def PySem.W.Fast.tw8366884242923452147 : Unit := ()
def PySem.W.Fast.tw17691960216880400588 : Unit := ()
def PySem.W.Fast.tw6239946142636389453 : Unit := ()
def PySem.W.Fast.tw17018579567398258555 : Unit := ()
def PySem.W.Fast.tw17536068210000381345 : Unit := ()
def PySem.W.Fast.tw618463547727309848 : Unit := ()
def PySem.W.Fast.tw12985912059906019563 : Unit := ()
def PySem.W.Fast.tw12703936067949910038 : Unit := ()
def PySem.W.Fast.tw17256723027114153064 : Unit := ()
def PySem.W.Fast.tw12283354254164077245 : Unit := ()
def PySem.W.Fast.tw12231615397166712232 : Unit := ()
def PySem.W.Fast.tw16691002638911551052 : Unit := ()
open PySem PySem.W PyProof.Rows
set_option maxRecDepth 100000 in
set_option maxHeartbeats 0 in
theorem PySem.Challenge.cw_manycounts_k85_no_drawings_holds : PySem.Challenge.rw_manycounts_k85_no_drawings.Holds := by
  w_on; o_law; k_head; (case hw => w_witness2)
  k_fill
  refine My.walk (l := PySem.Challenge.rw_manycounts_k85_no_drawings) rfl rfl (fun w h Y => PySem.W.kIn_of Y) ?F
  case F =>
    intro w mg fa h KX G hmg
    refine' My.all_mk KX G hmg ?a0 ?l0 ?c0 ?k0 ?a1 ?l1 ?c1 ?k1 ?a2 ?l2 ?c2 ?k2 ?a3 ?l3 ?c3 ?k3 ?a4 ?l4 ?c4 ?k4 ?a5 ?l5 ?c5 ?k5 ?a6 ?l6 ?c6 ?k6 ?a7 ?l7 ?c7 ?k7 ?a8 ?l8 ?c8 ?k8 ?a9 ?l9 ?c9 ?k9 ?a10 ?l10 ?c10 ?k10 ?a11 ?l11 ?c11 ?k11 ?a12 ?l12 ?c12 ?k12 ?a13 ?l13 ?c13 ?k13 ?a14 ?l14 ?c14 ?k14 ?a15 ?l15 ?c15 ?k15 ?a16 ?l16 ?c16 ?k16 ?a17 ?l17 ?c17 ?k17 ?a18 ?l18 ?c18 ?k18 ?a19 ?l19 ?c19 ?k19 ?a20 ?l20 ?c20 ?k20 ?a21 ?l21 ?c21 ?k21 ?a22 ?l22 ?c22 ?k22 ?a23 ?l23 ?c23 ?k23 ?z0 ?z1 ?z2 ?z3 ?z4 ?z5 ?z6 ?z7 ?z8 ?z9 ?z10 ?z11 ?z12 ?z13 ?z14 ?z15 ?y0 ?q0 ?q1 ?q2 ?qN0 ?qN1 ?qN2 ?qN3 ?qN4 ?qN5 ?qN6 ?qN7 ?qO0 ?qO1 ?qO2 ?qO3 ?qw ?x1 ?x2 ?n3 ?s3 ?s1 ?f1 ?aNI ?lNI ?cNI ?kNI
    (case a0 => k_is); (case l0 => k_is); (case c0 => k_is); (case k0 => k_is)
    (case a1 => k_is); (case l1 => k_is); (case c1 => k_is); (case k1 => k_is)
    (case a2 => k_is); (case l2 => k_is); (case c2 => k_is); (case k2 => k_is)
    (case a3 => k_is); (case l3 => k_is); (case c3 => k_is); (case k3 => k_is)
    (case a4 => k_is); (case l4 => k_is); (case c4 => k_is); (case k4 => k_is)
    (case a5 => k_is); (case l5 => k_is); (case c5 => k_is); (case k5 => k_is)
    (case a6 => k_is); (case l6 => k_is); (case c6 => k_is); (case k6 => k_is)
    (case a7 => k_is); (case l7 => k_is); (case c7 => k_is); (case k7 => k_is)
    (case a8 => k_is); (case l8 => k_is); (case c8 => k_is); (case k8 => k_is)
    (case a9 => k_is); (case l9 => k_is); (case c9 => k_is); (case k9 => k_is)
    (case a10 => k_is); (case l10 => k_is); (case c10 => k_is); (case k10 => k_is)
    (case a11 => k_is); (case l11 => k_is); (case c11 => k_is); (case k11 => k_is)
    (case a12 => k_is); (case l12 => k_is); (case c12 => k_is); (case k12 => k_is)
    (case a13 => k_is); (case l13 => k_is); (case c13 => k_is); (case k13 => k_is)
    (case a14 => k_is); (case l14 => k_is); (case c14 => k_is); (case k14 => k_is)
    (case a15 => k_is); (case l15 => k_is); (case c15 => k_is); (case k15 => k_is)
    (case a16 => k_is); (case l16 => k_is); (case c16 => k_is); (case k16 => k_is)
    (case a17 => k_is); (case l17 => k_is); (case c17 => k_is); (case k17 => k_is)
    (case a18 => k_is); (case l18 => k_is); (case c18 => k_is); (case k18 => k_is)
    (case a19 => k_is); (case l19 => k_is); (case c19 => k_is); (case k19 => k_is)
    (case a20 => k_is); (case l20 => k_is); (case c20 => k_is); (case k20 => k_is)
    (case a21 => k_is); (case l21 => k_is); (case c21 => k_is); (case k21 => k_is)
    (case a22 => k_is); (case l22 => k_is); (case c22 => k_is); (case k22 => k_is)
    (case a23 => k_is); (case l23 => k_is); (case c23 => k_is); (case k23 => k_is)
    (case z0 => k_is); (case z1 => k_is); (case z2 => k_is); (case z3 => k_is)
    (case z4 => k_is); (case z5 => k_is); (case z6 => k_is); (case z7 => k_is)
    (case z8 => k_is); (case z9 => k_is); (case z10 => k_is); (case z11 => k_is)
    (case z12 => k_is); (case z13 => k_is); (case z14 => k_is); (case z15 => k_is)
    (case y0 => k_is)
    (case q0 => k_is)
    (case q1 => k_is)
    (case q2 => k_is)
    (case qN0 => k_is)
    (case qN1 => k_is)
    (case qN2 => k_is)
    (case qN3 => k_is)
    (case qN4 => k_is)
    (case qN5 => k_is)
    (case qN6 => k_is)
    (case qN7 => k_is)
    (case qO0 => k_is)
    (case qO1 => k_is)
    (case qO2 => k_is)
    (case qO3 => k_is)
    (case qw => k_is)
    (case x1 => kernel_rfl)
    (case x2 => kernel_rfl)
    (case n3 => k_is)
    (case s3 => k_is)
    (case s1 => kernel_rfl)
    (case f1 => kernel_rfl)
    (case aNI => k_is)
    (case lNI => k_is)
    (case cNI => k_is)
    (case kNI => k_is)
