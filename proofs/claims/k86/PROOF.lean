import PyProof.Rows.All
import Wide.All
import OpenK.AllK
import Wide.FinOn
import Lean
import PyProof.EqAt
import PyProof.EqKinds
import PyProof.TupleCall
import KE.KIsAll
import PyProof.DictItems
import KE.KPairComp
import KE.KSortTup
import KE.IntBitsLaws
import KE.KRevIter
import PySem.Challenge.RW_manycounts_k86_whole_other_one
set_option Elab.async false
set_option linter.all false
set_option maxRecDepth 100000
set_option maxHeartbeats 4000000
open PySem PySem.W PyProof.Rows in
def Qq := @wpAny_bind
def Qj := @List.length_map
open PySem PySem.W PyProof.Rows in
def Qz := @Heap.get?_push_of_some
def Qx := @List.mem_singleton
open PySem PySem.W PyProof.Rows in
def Qv := @wpAny_pure
def Qw := @Nat.le_refl
def Qk := @List.mem_cons_self
def Qy := @List.mem_cons_of_mem
def Qg := @List.mem_filter
def Qh := @List.size_toArray
open PySem PySem.W PyProof.Rows in
def Qb := @Heap.get?_push_size
def Qf := @List.getElem?_eq_some_iff
def Qp := @List.mem_append_right
def Qd := @List.getD_eq_getElem?_getD
def Qc := @decide_eq_true_iff
def Qu := @List.map_append
open PySem PySem.W PyProof.Rows in
def Qt := @Heap.lt_size
def Qs := @List.mem_cons
def Qr := @List.mem_append
def Qn := @List.mem_append_left
def Qm := @List.map_cons
def Ql := @List.mem_map
def Q0 := @List.mem_range
def Q1 := @Bool.false_ne_true
def Q2 := @decide_eq_true
def Q3 := @List.length_append
def Q4 := @Int.toNat_natCast
def Q5 := @Bool.and_eq_true
def Q6 := @List.take_length
def Q7 := @Nat.ne_of_lt
def Q8 := @decide_eq_false
def Q9 := @List.getElem?_eq_getElem
def Jq := @List.mem_of_getElem?
def Jj := @Nat.zero_le
def Jz := @List.getElem?_map
def Jx := @Nat.le_trans
def Jv := @Nat.lt_of_lt_of_le
def Jw := @List.append_nil
def Jk := @List.length_range
def Jy := @List.nodup_cons
open PySem PySem.W PyProof.Rows in
def Jg := @wpAny_newObj_type
def Jh := @List.length_cons
def Jb := @List.all_eq_true
def Jf := @of_decide_eq_true
def Jp := @Bool.eq_iff_iff
open PySem PySem.W PyProof.Rows in
def Jd := @wpAny_call_entry
def Jc := @List.append_assoc
def Ju := @List.any_eq_true
def Jt := @List.pairwise_map
def Js := @Nat.lt_of_le_of_lt
def Jr := @List.length_filter_le
def Jm := @List.map_congr_left
def Jl := @List.mem_reverse
def J8 := @List.length_take
def J9 := @Nat.le_of_lt
def Wq := @List.filter_cons_of_pos
def Wj := @of_decide_eq_false
def Wz := @List.filter_append
def Wx := @List.perm_ext_iff_of_nodup
def Wv := @List.range_succ
def Ww := @List.sum_cons
def Wy := @Bool.false_eq_true
def Wg := @Bool.not_eq_true'
def Wh := @List.filter_cons_of_neg
def Wb := @Int.eq_ofNat_of_zero_le
def Wf := @List.nil_append
def Wp := @List.replicate_succ
open PySem PySem.W PyProof.Rows in
def Wd := @Heap.get?_update_other
def Wc := @List.getElem_mem
def Wu := @List.nodup_iff_pairwise_ne
open PySem PySem.W PyProof.Rows in
def Wt := @Heap.get?_update_self
def Ws := @Nat.le_succ
def Wr := @List.map_map
def Wn := @Nat.lt_irrefl
def Wm := @List.lookup_cons
def Wl := @List.length_eq_zero_iff
def W3 := @List.take_of_length_le
def W4 := @List.getElem?_set_self
def W5 := @List.nodup_append
def W6 := @List.filter_congr
def W7 := @Bool.eq_false_iff
namespace L2
open PySem PySem.Spec PyProof.Rows
abbrev Key := Sum Int Str
def zil : Key -> Value -> Bool
 | .inl k, v => Value.isInt k v
 | .inr x, v => Value.isStrOf x v
def zHz (w : World) : Key -> Int
 | .inl k => hashInt k
 | .inr x => hashStr w x
theorem y7 : ∀ {k : Key} {v : Value}, zil k v = true -> (∃ i t, k = Sum.inl i /\ v = Value.int i t) \/ (∃ x t, k = Sum.inr x /\ v = Value.str x t)
 | .inl i, v, h => by
  obtain ⟨t, e⟩ := Value.isInt_shape (k := i) (v := v) h;exact .inl ⟨i, t, rfl, e⟩
 | .inr x, v, h => by
  obtain ⟨t, e⟩ := Value.isStrOf_shape (x := x) (v := v) h;exact .inr ⟨x, t, rfl, e⟩
theorem zqo (i : Int) (t : Tok) : zil (.inl i) (.int i t) = true := by simp [zil, Value.isInt]
theorem zqn (x : Str) (t : Tok) : zil (.inr x) (.str x t) = true := by simp [zil, Value.isStrOf]
theorem zDn (a b : Int) : decide ((Sum.inl a : Key) = Sum.inl b) = (a == b) := by
 by_cases e : a = b
 ·subst e; simp
 ·have h : ¬ (Sum.inl a : Key) = Sum.inl b := fun q => e (Sum.inl.inj q);rw [Q8 h];exact (beq_eq_false_iff_ne.mpr e).symm
theorem zDk (a b : Str) : decide ((Sum.inr a : Key) = Sum.inr b) = decide (a = b) := by
 by_cases e : a = b
 ·subst e; simp
 ·have h : ¬ (Sum.inr a : Key) = Sum.inr b := fun q => e (Sum.inr.inj q);rw [Q8 h, Q8 e]
theorem zDm (a : Int) (b : Str) : decide ((Sum.inl a : Key) = Sum.inr b) = false := Q8 (fun q => nomatch q)
theorem zDl (a : Str) (b : Int) : decide ((Sum.inr a : Key) = Sum.inl b) = false := Q8 (fun q => nomatch q)
def y6 (prog : Program) (w : World) : PySem.KeyKind prog w Key where
 is := zil
 hash := zHz w
 inj := fun v a b ha hb => by
  rcases y7 ha with ⟨i, t, rfl, rfl⟩ | ⟨x, t, rfl, rfl⟩
  ·rcases y7 hb with ⟨j, u, rfl, e⟩ | ⟨y, u, rfl, e⟩
   ·injection e with e1 _; rw [e1]
   ·exact nomatch e
  ·rcases y7 hb with ⟨j, u, rfl, e⟩ | ⟨y, u, rfl, e⟩
   ·exact nomatch e
   ·injection e with e1 _; rw [e1]
 byValue := fun k v h => by
  rcases y7 h with ⟨i, t, rfl, rfl⟩ | ⟨x, t, rfl, rfl⟩ <;> rfl
 pyHash := fun hv h => by
  rcases y7 hv with ⟨i, t, rfl, rfl⟩ | ⟨x, t, rfl, rfl⟩
  ·exact wpAny_pyHash_int h
  ·exact wpAny_pyHash_str h
 eqBool := fun hu hv h => by
  rcases y7 hu with ⟨i, t, rfl, rfl⟩ | ⟨x, t, rfl, rfl⟩
  ·rcases y7 hv with ⟨j, u, rfl, rfl⟩ | ⟨y, u, rfl, rfl⟩
   ·rw [zDn] at h; exact wpAny_eqBool_int h
   ·rw [zDm] at h; exact SeqAt.EqAt.int_str i t y u _ _ _ _ h
  ·rcases y7 hv with ⟨j, u, rfl, rfl⟩ | ⟨y, u, rfl, rfl⟩
   ·rw [zDl] at h; exact SeqAt.EqAt.str_int x t j u _ _ _ _ h
   ·rw [zDk] at h; exact wpAny_eqBool_str h
 «strs» := fun k x t v h => by
  rcases y7 h with ⟨i, u, rfl, e⟩ | ⟨y, u, rfl, e⟩
  ·exact nomatch e
  ·injection e with e1 _;subst e1;cases v <;> rfl
theorem ziw (prog : Program) (w : World) (i : Int) (t : Tok) : (y6 prog w).is (.inl i) (.int i t) = true := zqo i t
theorem ziv (prog : Program) (w : World) (x : Str) (t : Tok) : (y6 prog w).is (.inr x) (.str x t) = true := zqn x t
inductive V where
 | non | bl (b : Bool) | int (i : Int) | str (x : Str) | byt (b : Array UInt8) | flt (b : UInt64) | ref (a : Addr) | ty (n : String)
 deriving DecidableEq
def RelV : V -> Value -> Prop
 | .non, u => u = Value.none
 | .bl b, u => u = Value.bool b
 | .int i, u => ∃ t, u = Value.int i t
 | .str x, u => ∃ t, u = Value.str x t
 | .byt b, u => ∃ t, u = Value.bytes b t
 | .flt b, u => ∃ t, u = Value.float b t
 | .ref a, u => u = Value.ref a
 | .ty n, u => u = Value.type n
abbrev Vals : List V -> List Value -> Prop := Paired RelV
theorem Vals.length {xs : List V} {us : List Value} (r : Vals xs us) : xs.length = us.length := Paired.length r
theorem Vals.get : ∀ {xs : List V} {us : List Value} {i : Nat} {x : V}, Vals xs us -> xs[i]? = some x -> ∃ u, us[i]? = some u /\ RelV x u
 | _, _, _, _, .nil, e => by simp at e
 | _, _, 0, _, .cons r _, e => by simp at e; subst e; exact ⟨_, rfl, r⟩
 | _, _, i + 1, x, .cons _ t, e => by
  obtain ⟨u, h1, h2⟩ := Vals.get (i := i) (x := x) t (by simpa using e);exact ⟨u, by simpa using h1, h2⟩
theorem Vals.set {x : V} {u : Value} (r : RelV x u) : ∀ {xs : List V} {us : List Value} (i : Nat), Vals xs us -> Vals (xs.set i x) (us.set i u)
 | _, _, _, .nil => .nil
 | _, _, 0, .cons _ t => .cons r t
 | _, _, i + 1, .cons q t => .cons q (Vals.set r i t)
theorem Vals.append : ∀ {xs ys : List V} {us ws : List Value}, Vals xs us -> Vals ys ws -> Vals (xs ++ ys) (us ++ ws)
 | _, _, _, _, .nil, s => s
 | _, _, _, _, .cons r t, s => .cons r (Vals.append t s)
theorem Vals.take : ∀ {xs : List V} {us : List Value} (n : Nat), Vals xs us -> Vals (xs.take n) (us.take n)
 | _, _, 0, _ => .nil
 | _, _, _ + 1, .nil => .nil
 | _, _, n + 1, .cons r t => .cons r (Vals.take n t)
theorem Vals.drop : ∀ {xs : List V} {us : List Value} (n : Nat), Vals xs us -> Vals (xs.drop n) (us.drop n)
 | _, _, 0, r => r
 | _, _, _ + 1, .nil => .nil
 | _, _, n + 1, .cons _ t => Vals.drop n t
def RelO : Option V -> Option Value -> Prop
 | some v, some u => RelV v u
 | none, none => True
 | _, _ => False
def KV {κ : Type} : List (κ × V) -> List (κ × Value) -> Prop := Paired fun (p : κ × V) (q : κ × Value) => p.1 = q.1 /\ RelV p.2 q.2
def kV : Key -> V
 | .inl i => .int i
 | .inr x => .str x
inductive HO where
  | lst (xs : List V)
  | tup (xs : List V)
  | dK (kvs : List (Key × V)) | dT (kvs : List (List Key × V))
  | set (S : Int -> Bool) (n : Nat)
  | ins (C dx : Addr) (fs : List (Str × V))
  | own (x : Addr)
  | xd (fs : List (Str × V))
  | met (f x : Addr)
  | rng (lo hi : Int)
  | frz (o : Obj) (u : HO)
  | tbl (ps : Array Value)
  | ext (φ : Heap -> Prop)
abbrev Hp := Addr -> Option HO
def upd (H : Hp) (a : Addr) (o : HO) : Hp := fun b => if b = a then some o else H b
theorem zC {H : Hp} {a : Addr} {o : HO} : upd H a o a = some o := by unfold upd; rw [if_pos rfl]
theorem zU {H : Hp} {a b : Addr} {o : HO} (h : b ≠ a) : upd H a o b = H b := by unfold upd; rw [if_neg h]
theorem zee {H : Hp} {a b : Addr} {o u : HO} (h : H a = some o) (h' : H b = some u) (d : o ≠ u) : a ≠ b := by
 intro e; subst e; rw [h] at h'; exact d (Option.some.inj h')
theorem zP {H : Hp} {a b : Addr} {o : HO} (h : H a = some o) (h' : H b = none) : a ≠ b := by
 intro e; subst e; rw [h] at h'; cases h'
section
variable (P : Program) (w : World)
def ObjOk (H : Hp) (h : Heap) (a : Addr) : HO -> Prop
 | .lst xs => xs.length <= sizeLine /\ ∃ (its : List Value) (n : Nat), Vals xs its /\ h.get? a = some { cls := .type "list", data := .seq its.toArray n }
 | .tup xs => xs.length <= sizeLine /\ ∃ its : List Value, Vals xs its /\ IsTup h a its.toArray
 | .dK kvs => kvs.length <= sizeLine /\ (a == sysModules) = false /\ ∃ vs, KV kvs vs /\ h.DictOf (y6 P w) a vs
 | .dT kvs => kvs.length <= sizeLine /\ (a == sysModules) = false /\ ∃ xs : List (List Key × Addr × Value),
   Paired (fun (p : List Key × V) (q : List Key × Addr × Value) => p.1 = q.1 /\ H q.2.1 = some (.tup (p.1.map kV)) /\ RelV p.2 q.2.2) kvs xs /\
   ∃ o es ep, h.get? a = some o /\ o.ExactDict /\ o.data = .dict es ep /\ es.toList = xs.map (entryOfKey (tupleKind (y6 P w))) /\ (xs.map (·.1)).Nodup
 | .set S n => h.SetOf (intKind P w) a S n
 | .ins C dx fs => H dx = some (.own a) /\ fs.length <= 1000 /\ dx ≠ a /\ h.get? a = some (PySem.W.instObj C dx) /\
   ∃ mA, h.Ns1 dx mA /\ (∀ f, RelO (fs.lookup f) (mA f)) /\ PySem.Within mA (fs.map (·.1))
 | .own _ => ∃ o, h.get? a = some o
 | .xd fs => ∃ mA, h.Ns1 a mA /\ ∀ f, RelO (fs.lookup f) (mA f)
 | .rng lo hi => ∃ t u v, h.get? a = some { cls := .type "range", data := .fields #[.int lo t, .int hi u, .int 1 v] }
 | .frz o u => h.get? a = some o /\ ObjOk H h a u
 | .tbl ps => h.get? a = some { cls := .none, data := .fields ps }
 | .met f x => h.get? a = some (PySem.W.methodObj (.ref f) (.ref x))
 | .ext φ => φ h /\ (∃ o, h.get? a = some o) /\ ∀ h1 h2 : Heap, φ h1 -> (∀ o, h1.get? a = some o -> h2.get? a = some o) -> φ h2
def HOk (H : Hp) (h : Heap) : Prop := ∀ a o, H a = some o -> ObjOk P w H h a o
end
section
variable {P : Program} {w : World} {H H' : Hp} {h h' : Heap} {a : Addr} {o : HO}
theorem ObjOk.lt (x : ObjOk P w H h a o) : a < h.objs.size := by
 cases o with
 | lst xs => obtain ⟨_, _, _, _, e⟩ := x; exact Qt e
 | tup xs => obtain ⟨_, _, _, p⟩ := x; exact p.lt
 | dK kvs => obtain ⟨_, _, _, _, o, _, _, e, _⟩ := x; exact Qt e
 | dT kvs => obtain ⟨_, _, _, _, o, _, _, e, _⟩ := x; exact Qt e
 | set S n => obtain ⟨o, _, _, _, e, _⟩ := x; exact Qt e
 | ins C dx fs => obtain ⟨_, _, _, e, _⟩ := x; exact Qt e
 | own y => obtain ⟨_, e⟩ := x; exact Qt e
 | xd fs => obtain ⟨_, ⟨_, _, _, e, _⟩, _⟩ := x; exact Qt e
 | rng lo hi => obtain ⟨_, _, _, e⟩ := x; exact Qt e
 | frz ob u => obtain ⟨e, _⟩ := x; exact Qt e
 | tbl ps => exact Qt (show h.get? a = some _ from x)
 | met f y => exact Qt (show h.get? a = some _ from x)
 | ext φ => obtain ⟨_, ⟨_, e⟩, _⟩ := x; exact Qt e
theorem Paired.mapP {α β : Type} {F G : α -> β -> Prop} : ∀ {l₁ : List α} {l₂ : List β}, Paired F l₁ l₂ -> (∀ a b, F a b -> G a b) -> Paired G l₁ l₂
 | _, _, .nil, _ => .nil
 | _, _, .cons r t, f => .cons (f _ _ r) (Paired.mapP t f)
theorem ObjOk.stay (x : ObjOk P w H h a o) (k : ∀ b u, (b = a \/ H b = some (.own a)) -> h.get? b = some u -> h'.get? b = some u)
  (ho : ∀ b, H b = some (.own a) -> H' b = some (.own a)) (ht : ∀ b xs, H b = some (.tup xs) -> H' b = some (.tup xs)) : ObjOk P w H' h' a o := by
 induction o with
 | lst xs => obtain ⟨z, its, n, r, e⟩ := x; exact ⟨z, its, n, r, k _ _ (.inl rfl) e⟩
 | tup xs => obtain ⟨z, its, r, ob, e, c⟩ := x; exact ⟨z, its, r, ob, k _ _ (.inl rfl) e, c⟩
 | dK kvs => obtain ⟨z, y, vs, r, ob, es, ep, e, c⟩ := x; exact ⟨z, y, vs, r, ob, es, ep, k _ _ (.inl rfl) e, c⟩
 | dT kvs =>
  obtain ⟨z, y, xs, r, ob, es, ep, e, c⟩ := x;exact ⟨z, y, xs, Paired.mapP r fun p q z => ⟨z.1, ht _ _ z.2.1, z.2.2⟩, ob, es, ep, k _ _ (.inl rfl) e, c⟩
 | set S n => obtain ⟨ob, es, ep, t, e, c⟩ := x; exact ⟨ob, es, ep, t, k _ _ (.inl rfl) e, c⟩
 | ins C dx fs =>
  obtain ⟨d, z, ne, e, mA, ⟨od, es, ep, e2, c⟩, r⟩ := x;exact ⟨ho _ d, z, ne, k _ _ (.inl rfl) e, mA, ⟨od, es, ep, k _ _ (.inr d) e2, c⟩, r⟩
 | own y => obtain ⟨ob, e⟩ := x; exact ⟨ob, k _ _ (.inl rfl) e⟩
 | xd fs => obtain ⟨mA, ⟨od, es, ep, e, c⟩, r⟩ := x; exact ⟨mA, ⟨od, es, ep, k _ _ (.inl rfl) e, c⟩, r⟩
 | rng lo hi => obtain ⟨t, u, v, e⟩ := x; exact ⟨t, u, v, k _ _ (.inl rfl) e⟩
 | frz ob u ih => obtain ⟨e, q⟩ := x; exact ⟨k _ _ (.inl rfl) e, ih q⟩
 | tbl ps =>
  have e : h.get? a = some { cls := .none, data := .fields ps } := x;show h'.get? a = some { cls := .none, data := .fields ps };exact k a _ (.inl rfl) e
 | met f y =>
  have e : h.get? a = some (PySem.W.methodObj (.ref f) (.ref y)) := x;show h'.get? a = some (PySem.W.methodObj (.ref f) (.ref y));exact k a _ (.inl rfl) e
 | ext φ => obtain ⟨p, ⟨o, e⟩, st⟩ := x; exact ⟨st _ _ p fun o q => k _ _ (.inl rfl) q, ⟨o, k _ _ (.inl rfl) e⟩, st⟩
theorem HOk.lt (x : HOk P w H h) (e : H a = some o) : a < h.objs.size := (x a o e).lt
theorem HOk.fresh (x : HOk P w H h) (e : h.objs.size <= a) : H a = none := by
 cases q : H a with
 | none => rfl
 | some u => exact absurd (Jv (x.lt q) e) (Wn _)
theorem HOk.kept (x : HOk P w H h) (k : ∀ b u, h.get? b = some u -> h'.get? b = some u) : HOk P w H h' := fun a o e =>
 (x a o e).stay (fun b u _ q => k b u q) (fun _ q => q) fun _ _ q => q
theorem HOk.laid (x : HOk P w H h) (k : ∀ b u, h.get? b = some u -> h'.get? b = some u) (hp : h.objs.size <= a) (new : ObjOk P w (upd H a o) h' a o) : HOk P w (upd H a o) h' := fun b u e => by
 have hn := x.fresh hp;by_cases hb : b = a
 ·subst hb; rw [zC] at e; cases e; exact new
 ·rw [zU hb] at e;exact (x b u e).stay (fun c v _ q => k c v q) (fun c q => by rw [zU (zP q hn)]; exact q) fun c xs q => by rw [zU (zP q hn)]; exact q
end
def Rd (H : Hp) (a : Addr) (u : HO) : Prop := H a = some u \/ ∃ o, H a = some (.frz o u)
theorem Rd.ok {P : Program} {w : World} {H : Hp} {h : Heap} {a : Addr} {u : HO} (r : Rd H a u) (x : HOk P w H h) : ObjOk P w H h a u := by
 rcases r with r | ⟨o, r⟩
 ·exact x a u r
 ·obtain ⟨_, q⟩ := x a _ r;exact q
def Mut : Option HO -> Prop
 | some (.lst _) => True
 | some (.dK _) => True
 | some (.dT _) => True
 | some (.set _ _) => True
 | some (.ins _ _ _) => True
 | some (.ext _) => True
 | _ => False
section
variable {P : Program} {w : World} {H : Hp} {h h' : Heap} {x e : Addr} {o' : HO}
theorem HOk.write (ok : HOk P w H h) (mu : Mut (H x)) (he : e = x \/ H e = some (.own x)) (k : ∀ b u, b ≠ e -> h.get? b = some u -> h'.get? b = some u) (heo : ∃ u, h'.get? e = some u)
  (new : ObjOk P w (upd H x o') h' x o') : HOk P w (upd H x o') h' := fun b u q => by
 have nown : ∀ c y, H c = some (.own y) -> c ≠ x := fun c y r z => by subst z; rw [r] at mu; exact mu
 have ntup : ∀ c xs, H c = some (.tup xs) -> c ≠ x := fun c xs r z => by subst z; rw [r] at mu; exact mu
 by_cases hb : b = x
 ·subst hb; rw [zC] at q; cases q; exact new
 ·rw [zU hb] at q;by_cases hbe : b = e
  ·have q' : H b = some (.own x) := by
    rcases he with z | z
    ·exact absurd (hbe.trans z) hb
    ·rw [hbe]; exact z
   rw [q] at q'; cases q';obtain ⟨v, hv⟩ := heo;exact ⟨v, by rw [hbe]; exact hv⟩
  ·refine (ok b u q).stay (fun c v hc r => k c v ?_ r) (fun c r => by rw [zU (nown c b r)]; exact r) fun c xs r => by rw [zU (ntup c xs r)]; exact r
   rcases hc with rfl | hc
   ·exact hbe
   ·rintro rfl;rcases he with z | z
    ·exact nown c b hc z
    ·rw [hc] at z; cases z; exact hb rfl
end
structure Un (fs ex : List Addr) (H H' : Hp) (h h' : Heap) : Prop where
 keep : ∀ b o, h.get? b = some o -> H b = none -> b ∉ fs -> b ∉ ex -> h'.get? b = some o
 slot : ∀ b o, h.get? b = some o -> H b = none -> b ∈ fs -> b ∉ ex -> ∃ sl, h'.get? b = some { o with slots := sl }
 free : ∀ b o, h.get? b = some o -> H b = none -> b ∉ ex -> H' b = none
 there : ∀ b o, h.get? b = some o -> b ∉ ex -> ∃ o', h'.get? b = some o'
 tups : ∀ b xs, H b = some (.tup xs) -> H' b = some (.tup xs)
 frzs : ∀ b o u, H b = some (.frz o u) -> H' b = some (.frz o u)
 tbls : ∀ b ps, H b = some (.tbl ps) -> ∃ more, H' b = some (.tbl (ps ++ more))
section
variable {fs fs' ex ex' : List Addr} {H H1 H2 : Hp} {h h1 h2 h' : Heap} {a x e : Addr} {o : HO}
theorem Un.any (u : Un fs ex H H1 h h1) {b : Addr} {ob : Obj} (q : h.get? b = some ob) (n : H b = none) (hx : b ∉ ex) : ∃ sl, h1.get? b = some { ob with slots := sl } := by
 by_cases hb : b ∈ fs
 ·exact u.slot b ob q n hb hx
 ·exact ⟨ob.slots, u.keep b ob q n hb hx⟩
theorem Un.kept (k : ∀ b u, h.get? b = some u -> h'.get? b = some u) : Un fs ex H H h h' :=
 ⟨fun b ob q _ _ _ => k b ob q, fun b ob q _ _ _ => ⟨ob.slots, k b ob q⟩, fun _ _ _ n _ => n, fun b ob q _ => ⟨ob, k b ob q⟩, fun _ _ q => q, fun _ _ _ q => q, fun _ ps q => ⟨#[], by rw [q]; simp⟩⟩
theorem Un.refl : Un fs ex H H h h := Un.kept fun _ _ q => q
theorem Un.laid (k : ∀ b u, h.get? b = some u -> h'.get? b = some u) (hp : h.objs.size <= a) (hn : H a = none) : Un fs ex H (upd H a o) h h' where
 keep := fun b u q _ _ _ => k b u q
 slot := fun b u q _ _ _ => ⟨u.slots, k b u q⟩
 free := fun b u q n _ => by rw [zU (Q7 (Jv (Qt q) hp))]; exact n
 there := fun b u q _ => ⟨u, k b u q⟩
 tups := fun b xs q => by rw [zU (zP q hn)]; exact q
 frzs := fun b u xs q => by rw [zU (zP q hn)]; exact q
 tbls := fun b ps q => ⟨#[], by rw [zU (zP q hn), q]; simp⟩
theorem Un.write (mu : Mut (H x)) (he : e = x \/ H e = some (.own x)) (k : ∀ b u, b ≠ e -> h.get? b = some u -> h'.get? b = some u) (heo : ∃ u, h'.get? e = some u) : Un fs ex H (upd H x o) h h' := by
 have hx : ∀ b, H b = none -> b ≠ x := fun b n z => by subst z; rw [n] at mu; exact mu
 have hb : ∀ b, H b = none -> b ≠ e := fun b n z => by
  subst z;rcases he with r | r
  ·exact hx b n r
  ·rw [n] at r; cases r
 have hm : ∀ b u, H b = some u -> ¬ Mut (some u) -> b ≠ x := fun b u q nm z => by subst z; rw [q] at mu; exact nm mu
 refine ⟨fun b u q n _ _ => k b u (hb b n) q, fun b u q n _ _ => ⟨u.slots, k b u (hb b n) q⟩, fun b u q n _ => by rw [zU (hx b n)]; exact n, fun b u q _ => ?_,
  fun b xs q => by rw [zU (hm b _ q fun z => z)]; exact q, fun b u xs q => by rw [zU (hm b _ q fun z => z)]; exact q, fun b ps q => ⟨#[], by rw [zU (hm b _ q fun z => z), q]; simp⟩⟩
 by_cases hbe : b = e
 ·subst hbe; exact heo
 ·exact ⟨u, k b u hbe q⟩
end
def trk (h : Heap) (H : Hp) : List Addr := (List.range h.objs.size).filter fun a => (H a).isSome
def zmh (h : Heap) (H : Hp) : Heap := PySem.W.hideAll h (trk h H)
theorem zqs (h : Heap) (H : Hp) : (zmh h H).objs.size = h.objs.size := PySem.W.hideAll_size _ _
theorem zuc {h : Heap} {H : Hp} {b : Addr} {o : Obj} (e : h.get? b = some o) (n : H b = none) : (zmh h H).get? b = some o :=
 PySem.W.hideAll_get _ e fun hm => by
  have q : (H b).isSome = true := (Qg.mp hm).2;rw [n] at q; simp at q
theorem zyk {h : Heap} {H : Hp} {b : Addr} {o : Obj} (e : (zmh h H).get? b = some o) : h.get? b = some o /\ H b = none := by
 have e' : h.get? b = some o := PySem.W.of_hideAll (trk h H) e;refine ⟨e', ?_⟩;cases q : H b with
 | none => rfl
 | some x =>
  have hm : b ∈ trk h H := Qg.mpr ⟨Q0.mpr (Qt e'), by simp [q]⟩;have z : (zmh h H).get? b = none := PySem.W.hideAll_none (trk h H) hm;rw [z] at e; cases e
def zAb (g h : Heap) (L : Addr) : List (Addr × Obj) := (List.range h.objs.size).filterMap fun a => if a = L \/ (g.get? a).isSome = true then none else (h.get? a).map fun o => (a, o)
def zal (g h : Heap) (L d : Addr) : List (Addr × Obj) := (zAb g h L).filter fun p => decide (p.1 ≠ d)
structure Mod (K : PySem.W.Frag) (mg : Str -> Option Value) (base : Heap) : Prop where
 kin : K.In base
 glob : base.Ns mainGlobals mg
 blt : ∃ mb, base.Ns builtinsNs mb /\ ∀ x : Str, x ≠ "__name__" -> mb x = bootBuiltins x
 nolimit : base.NoLimit
structure Cx where
 prog : Program
 w : World
 K : PySem.W.Frag
 mg : Str -> Option Value
 base : Heap
 A : Around
 N : List Str
 s₀ : Shared
 H₀ : Hp
 env : Env
 outer : List Env
 stack : List Env
 ex : List Addr
 fn : Str -> Bool
 calm : Bool
 pn : List (Addr × Obj)
 xe : Value -> Shared -> Prop
def frs (l : List Env) : List Addr := l.filterMap (·.frame)
abbrev Cx.fs (X : Cx) : List Addr := frs X.outer
def Vis (sc : Scope) (x : Str) : Prop := sc.names.lookup x = some .local \/ sc.names.lookup x = some .cell \/ sc.names.lookup x = some .free
def Loc (sc : Scope) (x : Str) : Prop := sc.names.lookup x = some .local \/ sc.names.lookup x = some .cell
def zIl (env : Env) (h : Heap) (m : Str -> Option Value) (x : Str) (u : Value) : Prop :=
 (env.kindOf x = some .local /\ m x = some u) \/ ((env.kindOf x = some .cell \/ env.kindOf x = some .free) /\ ∃ c, env.cells.lookup x = some c /\ h.IsCell c (some u))
structure Cx.Ok (X : Cx) : Prop where
 mod : Mod X.K X.mg X.base
 kind : X.env.scope.kind = .function
 glob : X.env.globals = mainGlobals
 blt : X.env.builtins = builtinsNs
 above : X.s₀.heap.objs.size <= X.env.locals
 inj : ∀ x y c, X.env.cells.lookup x = some c -> X.env.cells.lookup y = some c -> x = y
 has : ∀ x, (X.env.kindOf x = some .cell \/ X.env.kindOf x = some .free) -> ∃ c, X.env.cells.lookup x = some c
 cab : ∀ x c, X.fn x = true -> X.env.cells.lookup x = some c -> X.s₀.heap.objs.size <= c
 hd : X.calm = true -> X.A.handled = none
 frames : X.A.frames = some X.stack
 stk : X.stack = X.outer \/ (X.stack = X.env :: X.outer /\ X.env.frame = some X.env.locals)
 exf : ∀ b ∈ X.ex, b ≠ X.env.locals /\ ∀ x c, X.env.cells.lookup x = some c -> c ≠ b
 bs : ∀ b o, X.base.get? b = some o -> X.s₀.heap.get? b = some o /\ X.H₀ b = none
 bsz : X.base.objs.size <= X.s₀.heap.objs.size
 noex : ∀ b o, X.base.get? b = some o -> b ∉ X.ex
 exfs : ∀ b ∈ X.ex, b ∉ X.fs
 funs : X.s₀.heap.FunFrames X.base X.outer
 frf : ∀ b ∈ X.fs, X.H₀ b = none
structure Inv (X : Cx) (pins : List (Addr × Obj)) (σ : List (Option V)) (H : Hp) (s : Shared) : Prop where
 ok : X.Ok
 os : s.os = X.s₀.os
 bare : AllBare s.gens
 base : Un X.fs X.ex X.H₀ H X.s₀.heap s.heap
 loc : ∃ m, s.heap.Ns X.env.locals m /\ ∀ (i : Nat) (x : Str) (v : V), X.N[i]? = some x -> σ[i]? = some (some v) -> Vis X.env.scope x -> ∃ u, RelV v u /\ zIl X.env s.heap m x u
 cell : ∀ x c, X.env.cells.lookup x = some c -> ∃ v, s.heap.IsCell c v
 free : H X.env.locals = none
 freeC : ∀ x c, X.env.cells.lookup x = some c -> H c = none
 pin : ∀ p ∈ X.pn ++ pins, s.heap.get? p.1 = some p.2 /\ H p.1 = none /\ p.1 ≠ X.env.locals /\ p.1 ∉ X.fs /\ ∀ v, p.2.data ≠ .cell v
 hok : HOk X.prog X.w H s.heap
 len : σ.length = X.N.length
section
variable {X : Cx} {pins : List (Addr × Obj)} {σ : List (Option V)} {H H' : Hp} {s : Shared} {h' : Heap}
theorem Cx.Ok.nofr (ok : X.Ok) {b : Addr} {o : Obj} (e : X.base.get? b = some o) : b ∉ X.fs := fun hb => by
 have := (ok.funs.mem hb).1;rw [e] at this; cases this
theorem Inv.bs (I : Inv X pins σ H s) : ∀ b o, X.base.get? b = some o -> s.heap.get? b = some o /\ H b = none := fun b o e =>
 ⟨I.base.keep b o (I.ok.bs b o e).1 (I.ok.bs b o e).2 (I.ok.nofr e) (I.ok.noex b o e), I.base.free b o (I.ok.bs b o e).1 (I.ok.bs b o e).2 (I.ok.noex b o e)⟩
theorem Inv.bk (I : Inv X pins σ H s) : ∀ b o, X.base.get? b = some o -> s.heap.get? b = some o := fun b o e => (I.bs b o e).1
theorem Inv.mod (I : Inv X pins σ H s) : Mod X.K X.mg X.base := I.ok.mod
theorem Inv.kIn (I : Inv X pins σ H s) : X.K.In s.heap := I.ok.mod.kin.keeps I.bk
theorem Inv.lt (I : Inv X pins σ H s) : X.env.locals < s.heap.objs.size := let ⟨_, hn, _⟩ := I.loc; hn.lt
theorem Inv.sz (I : Inv X pins σ H s) : X.s₀.heap.objs.size <= s.heap.objs.size := Jx I.ok.above (J9 I.lt)
theorem Inv.nofs (I : Inv X pins σ H s) {a : Addr} (h : s.heap.objs.size <= a) : a ∉ X.fs := fun hb => by
 obtain ⟨_, o, ho, _⟩ := I.ok.funs.mem hb;exact absurd (Jv (Qt ho) (Jx I.sz h)) (Wn _)
theorem Inv.cne (I : Inv X pins σ H s) : ∀ x c, X.env.cells.lookup x = some c -> c ≠ X.env.locals := fun x c e z => by
 obtain ⟨v, o, ho, hd⟩ := I.cell x c e;obtain ⟨m, ⟨o', es, ep, ho', hd', _⟩, _⟩ := I.loc;rw [z, ho'] at ho; cases ho; rw [hd'] at hd; cases hd
theorem Inv.funs (I : Inv X pins σ H s) : s.heap.FunFrames X.base X.outer := by
 have all : ∀ (l : List Env), (∀ b ∈ frs l, b ∈ X.fs) -> X.s₀.heap.FunFrames X.base l -> s.heap.FunFrames X.base l := by
  intro l
  induction l with
  | nil => intro _ _; trivial
  | cons env r ih =>
   intro hs hl;obtain ⟨hk, ⟨L, o, hf, hn, ho, hd⟩, hr⟩ := hl;have hL : L ∈ X.fs := hs L (by unfold frs; rw [List.filterMap_cons, hf]; exact Qk);obtain ⟨sl, e⟩ := I.base.slot L o ho (I.ok.frf L hL) hL fun z => I.ok.exfs L z hL;exact ⟨hk, ⟨L, _, hf, hn, e, hd⟩, ih (fun b hb => hs b (by unfold frs; rw [List.filterMap_cons, hf]; exact Qy _ hb)) hr⟩
 exact all X.outer (fun _ hb => hb) I.ok.funs
theorem Inv.stack (I : Inv X pins σ H s) : s.heap.FunFrames X.base X.stack := by
 rcases I.ok.stk with e | ⟨e, hf⟩
 ·rw [e]; exact I.funs
 ·rw [e];obtain ⟨m, hn, _⟩ := I.loc;refine .cons (by rw [I.ok.kind]; decide) hf hn ?_ I.funs;exact Heap.get?_none_of_le (Jx I.ok.bsz I.ok.above)
theorem Inv.stkSub (I : Inv X pins σ H s) : ∀ b ∈ frs X.stack, b ∈ X.env.locals :: X.fs := fun b hb => by
 rcases I.ok.stk with e | ⟨e, hf⟩
 ·rw [e] at hb; exact Qy _ hb
 ·rw [e] at hb;unfold frs at hb;rw [List.filterMap_cons, hf] at hb;exact hb
theorem Inv.stkFree (I : Inv X pins σ H s) : ∀ b ∈ frs X.stack, H b = none := fun b hb => by
 rcases Qs.mp (I.stkSub b hb) with e | hb
 ·rw [e]; exact I.free
 ·obtain ⟨_, o, ho, _⟩ := I.ok.funs.mem hb;exact I.base.free b o ho (I.ok.frf b hb) fun z => I.ok.exfs b z hb
theorem Inv.step {g' : Array GenState} {t' : Nat} {d' : Drawn} {ch : List Addr} (I : Inv X pins σ H s)
  (hch : ∀ b ∈ ch, (b ∈ X.ex \/ X.s₀.heap.objs.size <= b) /\ b ≠ X.env.locals /\ (∀ x c, X.env.cells.lookup x = some c -> c ≠ b) /\ ∀ p ∈ X.pn ++ pins, p.1 ≠ b)
  (keep : ∀ b o, b ≠ X.env.locals -> b ∉ X.fs -> b ∉ ch -> s.heap.get? b = some o -> H b = none -> h'.get? b = some o)
  (slot : ∀ b o, b ≠ X.env.locals -> b ∈ X.fs -> b ∉ ch -> s.heap.get? b = some o -> H b = none -> ∃ sl, h'.get? b = some { o with slots := sl }) (free : ∀ b o, b ∉ ch -> s.heap.get? b = some o -> H b = none -> H' b = none)
  (there : ∀ b o, b ∉ ch -> s.heap.get? b = some o -> ∃ o', h'.get? b = some o')
  (tups : ∀ b xs, H b = some (.tup xs) -> H' b = some (.tup xs)) (frzs : ∀ b o u, H b = some (.frz o u) -> H' b = some (.frz o u)) (tbls : ∀ b ps, H b = some (.tbl ps) -> ∃ more, H' b = some (.tbl (ps ++ more)))
  (ns : ∀ m, s.heap.Ns X.env.locals m -> h'.Ns X.env.locals m) (hok : HOk X.prog X.w H' h') (hg : AllBare g') :
  Inv X pins σ H' { s with heap := h', gens := g', drawn := d', toks := t' } := by
 have neL : ∀ b o, X.s₀.heap.get? b = some o -> b ≠ X.env.locals := fun b o e => Q7 (Jv (Qt e) I.ok.above);have neC : ∀ b o, X.s₀.heap.get? b = some o -> b ∉ X.ex -> b ∉ ch := fun b o e hx hb => by
  rcases (hch b hb).1 with z | z
  ·exact hx z
  ·exact absurd (Jv (Qt e) z) (Wn _)
 have cellK : ∀ x c, X.env.cells.lookup x = some c -> ∀ v, s.heap.IsCell c v -> h'.IsCell c v := fun x c e v ⟨o, ho, hd⟩ => by
  have nch : c ∉ ch := fun z => (hch c z).2.2.1 x c e rfl;by_cases hc : c ∈ X.fs
  ·obtain ⟨sl, q⟩ := slot c o (I.cne x c e) hc nch ho (I.freeC x c e);exact ⟨_, q, hd⟩
  ·exact ⟨o, keep c o (I.cne x c e) hc nch ho (I.freeC x c e), hd⟩
 refine ⟨I.ok, I.os, hg, ⟨fun b o e n hb hx => ?_, fun b o e n hb hx => ?_, fun b o e n hx => ?_, fun b o e hx => ?_, fun b xs e => tups b xs (I.base.tups b xs e), fun b o xs e => frzs b o xs (I.base.frzs b o xs e), fun b ps e => ?_⟩, ?_, fun x c e => ?_, ?_, fun x c e => ?_, fun p hp => ?_, hok, I.len⟩
 ·exact keep b o (neL b o e) hb (neC b o e hx) (I.base.keep b o e n hb hx) (I.base.free b o e n hx)
 ·obtain ⟨sl, e1⟩ := I.base.slot b o e n hb hx;obtain ⟨sl', e2⟩ := slot b _ (neL b o e) hb (neC b o e hx) e1 (I.base.free b o e n hx);exact ⟨sl', e2⟩
 ·obtain ⟨o', e1⟩ := I.base.there b o e hx;exact free b o' (neC b o e hx) e1 (I.base.free b o e n hx)
 ·obtain ⟨o', e1⟩ := I.base.there b o e hx;exact there b o' (neC b o e hx) e1
 ·obtain ⟨m1, e1⟩ := I.base.tbls b ps e;obtain ⟨m2, e2⟩ := tbls b _ e1;exact ⟨m1 ++ m2, by rw [e2, Array.append_assoc]⟩
 ·obtain ⟨m, hn, hl⟩ := I.loc;refine ⟨m, ns m hn, fun i x v e1 e2 e3 => ?_⟩;obtain ⟨u, r, l⟩ := hl i x v e1 e2 e3;refine ⟨u, r, ?_⟩;rcases l with l | ⟨k, c, e, z⟩
  ·exact .inl l
  ·exact .inr ⟨k, c, e, cellK x c e _ z⟩
 ·obtain ⟨v, z⟩ := I.cell x c e;exact ⟨v, cellK x c e v z⟩
 ·obtain ⟨m, ⟨o, _, _, ho, _⟩, _⟩ := I.loc;exact free _ o (fun z => (hch _ z).2.1 rfl) ho I.free
 ·obtain ⟨v, o, ho, hd⟩ := I.cell x c e;exact free c o (fun z => (hch c z).2.2.1 x c e rfl) ho (I.freeC x c e)
 ·obtain ⟨e, n, ne, nf, d⟩ := I.pin p hp;have nch : p.1 ∉ ch := fun z => (hch p.1 z).2.2.2 p hp rfl;exact ⟨keep p.1 p.2 ne nf nch e n, free p.1 p.2 nch e n, ne, nf, d⟩
theorem Inv.un {t' : Nat} (I : Inv X pins σ H s) (u : Un X.fs [] H H' s.heap h') (hok : HOk X.prog X.w H' h') : Inv X pins σ H' { s with heap := h', toks := t' } := by
 obtain ⟨m, ⟨o, es, ep, ho, r⟩, _⟩ := id I.loc;obtain ⟨sl, hL⟩ := u.any ho I.free (by simp);exact I.step (g' := s.gens) (d' := s.drawn) (ch := []) (fun _ z => nomatch z) (fun b o _ hb _ e n => u.keep b o e n hb (by simp)) (fun b o _ hb _ e n => u.slot b o e n hb (by simp)) (fun b o _ e n => u.free b o e n (by simp)) (fun b o _ e => u.there b o e (by simp)) u.tups u.frzs u.tbls (fun m' hm => by
  obtain ⟨o', es', ep', ho', r'⟩ := hm;rw [ho] at ho'; cases ho';exact ⟨_, es', ep', hL, r'⟩) hok I.bare
theorem Inv.call {g' : Array GenState} {t' : Nat} {d' : Drawn} {ch : List Addr} (I : Inv X pins σ H s) (u : Un (frs X.stack) ch H H' s.heap h') (hok : HOk X.prog X.w H' h') (hg : AllBare g')
  (hch : ∀ b ∈ ch, (b ∈ X.ex \/ X.s₀.heap.objs.size <= b) /\ b ≠ X.env.locals /\ (∀ x c, X.env.cells.lookup x = some c -> c ≠ b) /\ ∀ p ∈ X.pn ++ pins, p.1 ≠ b) :
  Inv X pins σ H' { s with heap := h', gens := g', drawn := d', toks := t' } := by
 obtain ⟨m, ⟨o, es, ep, ho, r⟩, _⟩ := id I.loc;obtain ⟨sl, hL⟩ := u.any ho I.free fun z => (hch _ z).2.1 rfl;exact I.step (ch := ch) hch (fun b o hL hb hc e n => u.keep b o e n (fun z => (Qs.mp (I.stkSub b z)).elim hL hb) hc) (fun b o _ _ hc e n => u.any e n hc) (fun b o hc e n => u.free b o e n hc) (fun b o hc e => u.there b o e hc) u.tups u.frzs u.tbls (fun m' hm => by
  obtain ⟨o', es', ep', ho', r'⟩ := hm;rw [ho] at ho'; cases ho';exact ⟨_, es', ep', hL, r'⟩) hok hg
theorem Inv.turned {t' : Nat} {it : Addr} (I : Inv X pins σ H s) (k : ∀ b o, b ≠ it -> s.heap.get? b = some o -> h'.get? b = some o) (hn : H it = none) (hL : it ≠ X.env.locals)
  (h1 : it ∈ X.ex \/ X.s₀.heap.objs.size <= it) (h2 : ∀ x c, X.env.cells.lookup x = some c -> c ≠ it) (h3 : ∀ p ∈ X.pn ++ pins, p.1 ≠ it) : Inv X pins σ H { s with heap := h', toks := t' } := by
 have nit : ∀ b u, H b = some u -> b ≠ it := fun b u e z => by rw [z, hn] at e; cases e
 refine I.step (g' := s.gens) (d' := s.drawn) (ch := [it]) (fun b hb => ?_) (fun b o _ _ hc e _ => k b o (fun z => hc (by simp [z])) e) (fun b o _ _ hc e _ => ⟨o.slots, k b o (fun z => hc (by simp [z])) e⟩) (fun _ _ _ _ n => n)
  (fun b o hc e => ⟨o, k b o (fun z => hc (by simp [z])) e⟩) (fun _ _ e => e) (fun _ _ _ e => e) (fun b ps e => ⟨#[], by rw [e]; simp⟩) (fun m hm => ?_) (fun b u e => ?_) I.bare
 ·have e : b = it := by simpa using hb
  subst e;exact ⟨h1, hL, h2, h3⟩
 ·obtain ⟨o, es, ep, ho, r⟩ := hm;exact ⟨o, es, ep, k _ o (Ne.symm hL) ho, r⟩
 ·refine (I.hok b u e).stay (fun c v hc q => k c v ?_ q) (fun _ q => q) fun _ _ q => q;rcases hc with z | z
  ·rw [z]; exact nit b u e
  ·exact nit c _ z
theorem Inv.tok (I : Inv X pins σ H s) (t : Nat) : Inv X pins σ H { s with toks := t } := I.un (h' := s.heap) (t' := t) Un.refl I.hok
theorem Inv.kept {t' : Nat} (I : Inv X pins σ H s) (k : ∀ b u, s.heap.get? b = some u -> h'.get? b = some u) : Inv X pins σ H { s with heap := h', toks := t' } := I.un (Un.kept k) (I.hok.kept k)
theorem Inv.laid {a : Addr} {o : HO} {t' : Nat} (I : Inv X pins σ H s) (k : ∀ b u, s.heap.get? b = some u -> h'.get? b = some u) (hp : s.heap.objs.size <= a) (new : ObjOk X.prog X.w (upd H a o) h' a o) :
  Inv X pins σ (upd H a o) { s with heap := h', toks := t' } := I.un (Un.laid k hp (I.hok.fresh hp)) (I.hok.laid k hp new)
theorem Inv.write {x e : Addr} {o : HO} {t' : Nat} (I : Inv X pins σ H s) (mu : Mut (H x)) (he : e = x \/ H e = some (.own x)) (k : ∀ b u, b ≠ e -> s.heap.get? b = some u -> h'.get? b = some u) (heo : ∃ u, h'.get? e = some u)
  (new : ObjOk X.prog X.w (upd H x o) h' x o) : Inv X pins σ (upd H x o) { s with heap := h', toks := t' } := I.un (Un.write mu he k heo) (I.hok.write mu he k heo new)
theorem Inv.pins_of {pins' : List (Addr × Obj)} (I : Inv X pins σ H s) (h : ∀ p ∈ pins', s.heap.get? p.1 = some p.2 /\ H p.1 = none /\ p.1 ≠ X.env.locals /\ p.1 ∉ X.fs /\ ∀ v, p.2.data ≠ .cell v) : Inv X pins' σ H s :=
 ⟨I.ok, I.os, I.bare, I.base, I.loc, I.cell, I.free, I.freeC, fun p hp => (Qr.mp hp).elim (fun z => I.pin p (Qn _ z)) (h p), I.hok, I.len⟩
theorem zkj {N : List Str} (hN : N.Nodup) {i j : Nat} {x : Str} (a : N[i]? = some x) (b : N[j]? = some x) : i = j := by
 obtain ⟨h1, e1⟩ := Qf.mp a;obtain ⟨h2, e2⟩ := Qf.mp b;exact (List.getElem_inj hN).mp (e1.trans e2.symm)
theorem zet {M : Model} {A : Around} {E : Value -> Shared -> Prop} {i : Nat} {x : Str} {v : V} {u : Value} {Q : Unit -> Shared -> Prop} (I : Inv X pins σ H s) (hN : X.N.Nodup) (hi : X.N[i]? = some x) (hx : Loc X.env.scope x) (r : RelV v u)
  (h : ∀ s', Inv X pins (σ.set i (some v)) H s' -> (∃ a, Heap.SameBut a s.heap s'.heap /\ (a = X.env.locals \/ X.env.cells.lookup x = some a)) -> Q () s') (hf : X.fn x = true \/ X.env.scope.names.lookup x = some .local := by first | exact .inl rfl | exact .inr rfl | assumption) : wpAny M A (storeName X.env x u) Q E s := by
 obtain ⟨m, hn, hl⟩ := id I.loc;have hcls : (X.env.scope.kind == .class || (X.env.scope.kind == .module && X.env.locals != X.env.globals)) = false := by rw [I.ok.kind]; rfl
 have hiσ : i < σ.length := by rw [I.len]; exact (Qf.mp hi).1
 have cne := I.cne;have tracked : ∀ {a : Addr} {h' : Heap}, (∃ o, s.heap.get? a = some o /\ H a = none) -> Heap.SameBut a s.heap h' -> HOk X.prog X.w H h' := fun {a h'} ha hs b ob e => by
  obtain ⟨_, _, hfree⟩ := ha;refine (I.hok b ob e).stay (fun c w' hc q => (hs.2 c ?_).trans q) (fun _ q => q) fun _ _ q => q;rintro rfl;rcases hc with rfl | hc
  ·rw [hfree] at e; cases e
  ·rw [hfree] at hc; cases hc
 rcases hx with hk | hk
 ·refine wpAny_storeName_local hk hn (fun h' hn' hs => ?_) hcls;obtain ⟨oL, _, _, hoL, _⟩ := id hn;refine h _ ⟨I.ok, I.os, I.bare, ⟨fun b o e n hb hx => ?_, fun b o e n hb hx => ?_, I.base.free, fun b o e hx => ?_, I.base.tups, I.base.frzs, I.base.tbls⟩, ⟨_, hn', fun j y v' e1 e2 e3 => ?_⟩, fun y c e => ?_, I.free, I.freeC, fun p hp => ?_, tracked ⟨oL, hoL, I.free⟩ hs, by simpa using I.len⟩ ⟨_, hs, .inl rfl⟩
  ·exact (hs.2 b (Q7 (Jv (Qt e) I.ok.above))).trans (I.base.keep b o e n hb hx)
  ·obtain ⟨sl, e1⟩ := I.base.slot b o e n hb hx;exact ⟨sl, (hs.2 b (Q7 (Jv (Qt e) I.ok.above))).trans e1⟩
  ·obtain ⟨o', e1⟩ := I.base.there b o e hx;exact ⟨o', (hs.2 b (Q7 (Jv (Qt e) I.ok.above))).trans e1⟩
  ·by_cases hj : j = i
   ·subst hj;rw [hi] at e1; cases e1;rw [W4 hiσ] at e2;cases e2
    exact ⟨u, r, .inl ⟨hk, by simp⟩⟩
   ·rw [List.getElem?_set_ne (Ne.symm hj)] at e2;obtain ⟨u', r', q⟩ := hl j y v' e1 e2 e3;refine ⟨u', r', ?_⟩;rcases q with ⟨k, e⟩ | ⟨k, c, e, z⟩
    ·refine .inl ⟨k, ?_⟩;have : y ≠ x := fun e => hj (zkj hN e1 (e ▸ hi));simp [this, e]
    ·exact .inr ⟨k, c, e, z.sameBut hs (cne y c e)⟩
  ·obtain ⟨w', z⟩ := I.cell y c e;exact ⟨w', z.sameBut hs (cne y c e)⟩
  ·obtain ⟨e, n, ne, nf, d⟩ := I.pin p hp;exact ⟨(hs.2 p.1 ne).trans e, n, ne, nf, d⟩
 ·have hfn : X.fn x = true := by
   rcases hf with z | z
   ·exact z
   ·rw [z] at hk; cases hk
  obtain ⟨c, hc⟩ := I.ok.has x (.inl hk);obtain ⟨w', z⟩ := I.cell x c hc;refine wpAny_storeName_cell I.ok.kind hk hc z (fun h' hc' hs => ?_);obtain ⟨oc, hoc, hocd⟩ := id z;refine h { s with heap := h' } ⟨I.ok, I.os, I.bare, ⟨fun b o e n hb hx => ?_, fun b o e n hb hx => ?_, I.base.free, fun b o e hx => ?_, I.base.tups, I.base.frzs, I.base.tbls⟩, ⟨m, hn.sameBut hs (Ne.symm (cne x c hc)), fun j y v' e1 e2 e3 => ?_⟩, fun y c' e => ?_, I.free, I.freeC, fun p hp => ?_, tracked ⟨oc, hoc, I.freeC x c hc⟩ hs, by simpa using I.len⟩ ⟨c, hs, .inr hc⟩
  ·exact (hs.2 b (Q7 (Jv (Qt e) (I.ok.cab x c hfn hc)))).trans (I.base.keep b o e n hb hx)
  ·obtain ⟨sl, e1⟩ := I.base.slot b o e n hb hx;exact ⟨sl, (hs.2 b (Q7 (Jv (Qt e) (I.ok.cab x c hfn hc)))).trans e1⟩
  ·obtain ⟨o', e1⟩ := I.base.there b o e hx;exact ⟨o', (hs.2 b (Q7 (Jv (Qt e) (I.ok.cab x c hfn hc)))).trans e1⟩
  ·by_cases hj : j = i
   ·subst hj;rw [hi] at e1; cases e1;rw [W4 hiσ] at e2;cases e2
    exact ⟨u, r, .inr ⟨.inl hk, c, hc, hc'⟩⟩
   ·rw [List.getElem?_set_ne (Ne.symm hj)] at e2;obtain ⟨u', r', q⟩ := hl j y v' e1 e2 e3;refine ⟨u', r', ?_⟩;rcases q with q | ⟨k, c', e, z'⟩
    ·exact .inl q
    ·refine .inr ⟨k, c', e, z'.sameBut hs ?_⟩;rintro rfl;exact hj (zkj hN e1 (I.ok.inj _ _ _ e hc ▸ hi))
  ·by_cases hcc : c' = c
   ·subst hcc; exact ⟨_, hc'⟩
   ·obtain ⟨w2, z2⟩ := I.cell y c' e;exact ⟨w2, z2.sameBut hs hcc⟩
  ·obtain ⟨e, n, ne, nf, d⟩ := I.pin p hp;refine ⟨(hs.2 p.1 ?_).trans e, n, ne, nf, d⟩;intro q;rw [q, hoc] at e;have q' : oc = p.2 := Option.some.inj e;exact d w' (by rw [<- q']; exact hocd)
theorem zjk {M : Model} {A : Around} {E : Value -> Shared -> Prop} {i : Nat} {x : Str} {v : V} {u : Value} {Q : Unit -> Shared -> Prop} (I : Inv X pins σ H s) (hN : X.N.Nodup) (hi : X.N[i]? = some x) (hx : Loc X.env.scope x) (r : RelV v u)
  (h : ∀ s', Inv X pins (σ.set i (some v)) H s' -> Q () s') (hf : X.fn x = true \/ X.env.scope.names.lookup x = some .local := by first | exact .inl rfl | exact .inr rfl | assumption) : wpAny M A (storeName X.env x u) Q E s :=
 zet I hN hi hx r (fun s' I' _ => h s' I') hf
theorem Inv.call' {s' : Shared} {ch : List Addr} (I : Inv X pins σ H s) (ho : s'.os = s.os) (u : Un (frs X.stack) ch H H' s.heap s'.heap) (hok : HOk X.prog X.w H' s'.heap) (hg : AllBare s'.gens)
  (hch : ∀ b ∈ ch, (b ∈ X.ex \/ X.s₀.heap.objs.size <= b) /\ b ≠ X.env.locals /\ (∀ x c, X.env.cells.lookup x = some c -> c ≠ b) /\ ∀ p ∈ X.pn ++ pins, p.1 ≠ b) : Inv X pins σ H' s' := by
 obtain ⟨h', g', d', t', o'⟩ := s';have e : o' = s.os := ho;subst e;exact I.call (g' := g') (t' := t') (d' := d') u hok hg hch
end
abbrev XK := Value -> Option Addr -> Hp -> Prop
abbrev St := List (Option V)
abbrev VK := V -> Hp -> Prop
abbrev TE := St -> Hp -> VK -> Prop
abbrev TT := St -> Hp -> (Bool -> Hp -> Prop) -> Prop
abbrev TA := St -> Hp -> (List V -> Hp -> Prop) -> Prop
structure zfv where
 nx : St -> Hp -> Prop
 rt : VK
 bk : St -> Hp -> Prop := fun _ _ => False
 ct : St -> Hp -> Prop := fun _ _ => False
abbrev TS := zfv -> St -> Hp -> Prop
def EP (X : Cx) (pins : List (Addr × Obj)) (σ : St) (Q : VK) (u : Value) (s' : Shared) : Prop := ∃ v H', Inv X pins σ H' s' /\ RelV v u /\ Q v H'
def TP (X : Cx) (pins : List (Addr × Obj)) (σ : St) (Q : Bool -> Hp -> Prop) (b : Bool) (s' : Shared) : Prop := ∃ H', Inv X pins σ H' s' /\ Q b H'
def AP (X : Cx) (pins : List (Addr × Obj)) (σ : St) (Q : List V -> Hp -> Prop) (us : List Value) (s' : Shared) : Prop := ∃ vs H', Inv X pins σ H' s' /\ Vals vs us /\ Q vs H'
def SP (X : Cx) (pins : List (Addr × Obj)) (D : zfv) (f : Flow) (s' : Shared) : Prop :=
 match f with
 | .next => ∃ σ' H', Inv X pins σ' H' s' /\ D.nx σ' H'
 | .brk => ∃ σ' H', Inv X pins σ' H' s' /\ D.bk σ' H'
 | .cont => ∃ σ' H', Inv X pins σ' H' s' /\ D.ct σ' H'
 | .ret u => ∃ v σ' H', Inv X pins σ' H' s' /\ RelV v u /\ D.rt v H'
def PE (X : Cx) (e : Expr) (t : TE) : Prop :=
 ∀ (pins : List (Addr × Obj)) (s : Shared) (σ : St) (H : Hp) (Q : VK), Inv X pins σ H s -> t σ H Q -> wpAny (model X.prog X.w) X.A (eval e X.env) (EP X pins σ Q) X.xe s
def PT (X : Cx) (e : Expr) (t : TT) : Prop :=
 ∀ (pins : List (Addr × Obj)) (s : Shared) (σ : St) (H : Hp) (Q : Bool -> Hp -> Prop), Inv X pins σ H s -> t σ H Q -> wpAny (model X.prog X.w) X.A (isTrue e X.env (eval e X.env)) (TP X pins σ Q) X.xe s
def PW (X : Cx) (e : Expr) (t : TT) : Prop :=
 ∀ (whole : Sem Value) (pins : List (Addr × Obj)) (s : Shared) (σ : St) (H : Hp) (Q : Bool -> Hp -> Prop), Inv X pins σ H s -> t σ H Q -> wpAny (model X.prog X.w) X.A (isTrue e X.env whole) (TP X pins σ Q) X.xe s
theorem PW.pt {X : Cx} {e : Expr} {t : TT} (h : PW X e t) : PT X e t := h _
def PA (X : Cx) (es : List Expr) (t : TA) : Prop :=
 ∀ (pos : Pos) (pins : List (Addr × Obj)) (s : Shared) (σ : St) (H : Hp) (Q : List V -> Hp -> Prop), Inv X pins σ H s -> t σ H Q -> wpAny (model X.prog X.w) X.A (spliced (backTo pos (starEach es X.env))) (AP X pins σ Q) X.xe s
def PS (X : Cx) (st : Stmt) (t : TS) : Prop :=
 ∀ (pins : List (Addr × Obj)) (s : Shared) (σ : St) (H : Hp) (D : zfv), Inv X pins σ H s -> t D σ H -> wpAny (model X.prog X.w) X.A (exec st X.env) (SP X pins D) X.xe s
def PSs (X : Cx) (st : List Stmt) (t : TS) : Prop :=
 ∀ (pins : List (Addr × Obj)) (s : Shared) (σ : St) (H : Hp) (D : zfv), Inv X pins σ H s -> t D σ H -> wpAny (model X.prog X.w) X.A (execs st X.env) (SP X pins D) X.xe s
theorem thn {α : Type} {t : Sem α} {Q Q' : α -> Shared -> Prop} {M : Model} {A : Around} {E : Value -> Shared -> Prop} {s : Shared} (h : wpAny M A t Q E s) (hQ : ∀ a s, Q a s -> Q' a s) : wpAny M A t Q' E s := wpAny_mono h hQ fun _ _ x => x
section
variable {X : Cx}
def zlr (i : Nat) : TE := fun σ H Q => ∃ v, σ[i]? = some (some v) /\ Q v H
def tC (v : V) : TE := fun _ H Q => Q v H
theorem zCs {i : Nat} {x : Str} {pos : Pos} (hN : X.N[i]? = some x) (hv : Vis X.env.scope x) (hd : (x == ("__debug__" : Str)) = false := by decide) (hcd : (x == ("__classdict__" : Str)) = false := by decide) : PE X (.Name x pos) (zlr i) := by
 intro pins s σ H Q I h;obtain ⟨v, e, h⟩ := h;obtain ⟨m, hn, hl⟩ := I.loc;obtain ⟨u, r, l⟩ := hl i x v hN e hv;have fin : EP X pins σ Q u s := ⟨v, H, I, r, h⟩;rcases l with ⟨hk, hm⟩ | ⟨hk, c, hc, hcell⟩
 ·exact wpAny_Name (wpAny_loadName_local I.ok.kind hk hn hm fin) hd
 ·rcases hk with hk | hk
  ·exact wpAny_Name (wpAny_loadName_cell I.ok.kind hk hc hcell fin) hd
  ·exact wpAny_Name (wpAny_loadName_free I.ok.kind hk hc hcell fin hcd) hd
theorem zF {i j pos} : PE X (.Constant (.int i) j pos) (tC (.int i)) := fun _ _ _ H _ I h => wpAny_Constant_int ⟨.int i, H, I.tok _, ⟨_, rfl⟩, h⟩
theorem zif {b j pos} : PE X (.Constant (.bool b) j pos) (tC (.bl b)) := fun _ _ _ H _ I h => Constant_bool ⟨.bl b, H, I, rfl, h⟩
theorem zCu {j pos} : PE X (.Constant .none j pos) (tC .non) := fun _ _ _ H _ I h => Constant_none ⟨.non, H, I, rfl, h⟩
def Gl (X : Cx) (x : Str) : Prop := X.env.kindOf x = some .globalImplicit
theorem zot {E : Value -> Shared -> Prop} {pins : List (Addr × Obj)} {s : Shared} {σ : St} {H : Hp} {x : Str} {u : Value} {pos : Pos} {Q : Value -> Shared -> Prop} (I : Inv X pins σ H s) (hg : Gl X x) (hm : X.mg x = some u) (h : Q u s)
  (hd : (x == ("__debug__" : Str)) = false := by decide) : wpAny (model X.prog X.w) X.A (eval (.Name x pos) X.env) Q E s :=
 Calls.Name_function_global I.ok.kind hg (Calls.loadGlobal_global (by rw [I.ok.glob]; exact I.mod.glob.keeps I.bk) hm h) hd
theorem zbf {E : Value -> Shared -> Prop} {pins : List (Addr × Obj)} {s : Shared} {σ : St} {H : Hp} {x : Str} {u : Value} {pos : Pos} {Q : Value -> Shared -> Prop} (I : Inv X pins σ H s) (hg : Gl X x) (hm : X.mg x = none) (hv : bootBuiltins x = some u) (h : Q u s)
  (hn : x ≠ "__name__" := by decide) (hd : (x == ("__debug__" : Str)) = false := by decide) : wpAny (model X.prog X.w) X.A (eval (.Name x pos) X.env) Q E s := by
 obtain ⟨mb, h1, h2⟩ := I.mod.blt;exact Calls.Name_function_global I.ok.kind hg (Calls.loadGlobal_builtin (by rw [I.ok.glob]; exact I.mod.glob.keeps I.bk) hm (by rw [I.ok.blt]; exact h1.keeps I.bk) ((h2 x hn).trans hv) h) hd
theorem zoi {x : Str} {v : V} {u : Value} {pos : Pos} (hg : Gl X x) (hm : X.mg x = some u) (r : RelV v u) (hd : (x == ("__debug__" : Str)) = false := by decide) : PE X (.Name x pos) (tC v) :=
 fun _ _ _ H _ I h => zot I hg hm ⟨v, H, I, r, h⟩ hd
theorem gO {x : Str} {v : V} {u : Value} {pos : Pos} (hg : Gl X x) (hm : X.mg x = none) (hv : bootBuiltins x = some u) (r : RelV v u) (hn : x ≠ "__name__" := by decide) (hd : (x == ("__debug__" : Str)) = false := by decide) : PE X (.Name x pos) (tC v) :=
 fun _ _ _ H _ I h => zbf I hg hm hv ⟨v, H, I, r, h⟩ hn hd
variable {a b : Expr} {ta tb : TE} {pos : Pos}
def tB (t : TE) : TT := fun σ H Q => t σ H fun x H1 => ∃ c, x = .bl c /\ Q c H1
theorem vE {e : Expr} {t : TE} (h : PE X e t) (he : ∀ whole, isTrue e X.env whole = (do let v <- whole; standAt e.pos; holding [v] (truthy v)) := by intro _; rfl) : PT X e (tB t) := by
 intro pins s σ H Q I hw;refine isTrue_plain (thn (h pins s σ H _ I hw) fun v s1 ⟨x, H1, I1, r1, q1⟩ => ?_) (he _);obtain ⟨d, rfl, q⟩ := q1;cases r1
 exact wpAny_truthy_bool ⟨H1, I1, q⟩
variable {tA tB' : TT} {zal : List Expr}
def zHf (t u : TT) : TT := fun σ H Q => t σ H fun c H1 => if c = true then u σ H1 Q else Q false H1
def tOr (t u : TT) : TT := fun σ H Q => t σ H fun c H1 => if c = true then Q true H1 else u σ H1 Q
def zGz (t : TT) : TT := fun σ H Q => t σ H fun c H1 => Q (!c) H1
theorem zyf (ha : PT X a tA) : PW X (.BoolOp .And [a] pos) tA := by
 intro wh pins s σ H Q I h;refine isTrue_and (thn (ha pins s σ H Q I h) fun c s1 e => ?_);cases c with
 | true => exact isTrue_and_nil e
 | false => exact e
theorem zie (ha : PT X a tA) : PW X (.BoolOp .Or [a] pos) tA := by
 intro wh pins s σ H Q I h;refine isTrue_or (thn (ha pins s σ H Q I h) fun c s1 e => ?_);cases c with
 | false => exact isTrue_or_nil e
 | true => exact e
theorem zCm (ha : PT X a tA) (hb : PW X (.BoolOp .And (b :: zal) pos) tB') : PW X (.BoolOp .And (a :: b :: zal) pos) (zHf tA tB') := by
 intro wh pins s σ H Q I h;refine isTrue_and (thn (ha pins s σ H _ I h) fun c s1 ⟨H1, I1, q1⟩ => ?_);cases c with
 | true => exact hb wh pins s1 σ H1 Q I1 q1
 | false => exact ⟨H1, I1, q1⟩
theorem zlz (ha : PT X a tA) (hb : PW X (.BoolOp .Or (b :: zal) pos) tB') : PW X (.BoolOp .Or (a :: b :: zal) pos) (tOr tA tB') := by
 intro wh pins s σ H Q I h;refine isTrue_or (thn (ha pins s σ H _ I h) fun c s1 ⟨H1, I1, q1⟩ => ?_);cases c with
 | true => exact ⟨H1, I1, q1⟩
 | false => exact hb wh pins s1 σ H1 Q I1 q1
theorem kI (ha : PT X a tA) : PT X (.UnaryOp .Not a pos) (zGz tA) := by
 intro pins s σ H Q I h;exact isTrue_not (ha pins s σ H (fun c H1 => Q (!c) H1) I h)
def zFd (ta tb : TE) : TE := fun σ H Q => ta σ H fun x H1 => ∃ c, x = .bl c /\ if c = true then tb σ H1 Q else Q (.bl false) H1
def zFa (ta : TE) : TE := fun σ H Q => ta σ H fun x H1 => ∃ c, x = .bl c /\ Q (.bl (!c)) H1
theorem zCt {op} {t : TE} (h : PE X a t) : PE X (.BoolOp op [a] pos) t := fun pins s σ H Q I hw => BoolOp_one (h pins s σ H Q I hw)
theorem zCw (ha : PE X a ta) (hb : PE X (.BoolOp .And (b :: zal) pos) tb) : PE X (.BoolOp .And (a :: b :: zal) pos) (zFd ta tb) := by
 intro pins s σ H Q I h;refine BoolOp_and (thn (ha pins s σ H _ I h) fun v s1 ⟨x, H1, I1, r1, q1⟩ => ?_);obtain ⟨c, rfl, q1⟩ := q1;cases r1
 refine wpAny_truthy_bool ?_;cases c with
 | true => exact hb pins s1 σ H1 Q I1 q1
 | false => exact ⟨.bl false, H1, I1, rfl, q1⟩
theorem zvu (ha : PE X a ta) : PE X (.UnaryOp .Not a pos) (zFa ta) := by
 intro pins s σ H Q I h;refine UnaryOp_ (thn (ha pins s σ H _ I h) fun v s1 ⟨x, H1, I1, r1, q1⟩ => ?_);obtain ⟨c, rfl, q1⟩ := q1;cases r1
 exact not_of (wpAny_truthy_bool ⟨.bl (!c), H1, I1, rfl, q1⟩)
def tIf (t : TT) (ta tb : TE) : TE := fun σ H Q => t σ H fun c H1 => if c = true then ta σ H1 Q else tb σ H1 Q
theorem kZ {c : Expr} (hc : PT X c tA) (ha : PE X a ta) (hb : PE X b tb) : PE X (.IfExp c a b pos) (tIf tA ta tb) := by
 intro pins s σ H Q I h;refine wpAny_IfExp (thn (hc pins s σ H _ I h) fun d s1 ⟨H1, I1, q1⟩ => ?_);cases d with
 | true => exact ha pins s1 σ H1 Q I1 q1
 | false => exact hb pins s1 σ H1 Q I1 q1
end
def SqL (K : PySem.W.Frag) (H : Hp) (a : Addr) (xs : List V) : Prop :=
 Rd H a (.lst xs) \/
  ∃ (o : Obj) (its : Array Value) (n : Nat), K.lookup a = some o /\ o.cls = .type "list" /\ o.dict = none /\ o.data = .seq its n /\ its.size <= sizeLine /\ Vals xs its.toList
def SqT (K : PySem.W.Frag) (H : Hp) (a : Addr) (xs : List V) : Prop :=
 Rd H a (.tup xs) \/
  ∃ (o : Obj) (its : Array Value) (n : Nat), K.lookup a = some o /\ o.cls = .type "tuple" /\ o.data = .seq its n /\ its.size <= sizeLine /\ Vals xs its.toList
def zIi : Value -> Option V
 | .none => some .non
 | .bool b => some (.bl b)
 | .int i _ => some (.int i)
 | .str x _ => some (.str x)
 | .bytes b _ => some (.byt b)
 | .float b _ => some (.flt b)
 | .ref a => some (.ref a)
 | .type n => some (.ty n)
 | _ => none
theorem RelV.abs {x : V} {u : Value} (r : RelV x u) : zIi u = some x := by
 cases x with
 | non => cases r; rfl
 | bl _ => cases r; rfl
 | int _ => obtain ⟨t, rfl⟩ := r; rfl
 | str _ => obtain ⟨t, rfl⟩ := r; rfl
 | byt _ => obtain ⟨t, rfl⟩ := r; rfl
 | flt _ => obtain ⟨t, rfl⟩ := r; rfl
 | ref _ => cases r; rfl
 | ty _ => cases r; rfl
theorem RelV.inj {x y : V} {u : Value} (r : RelV x u) (q : RelV y u) : x = y := Option.some.inj (r.abs.symm.trans q.abs)
theorem Vals.inj : ∀ {xs ys : List V} {us : List Value}, Vals xs us -> Vals ys us -> xs = ys
 | _, _, _, .nil, .nil => rfl
 | _, _, _, .cons r t, .cons r' t' => by rw [r.inj r', Vals.inj t t']
section
variable {X : Cx} {pins : List (Addr × Obj)} {σ : St} {H : Hp} {s : Shared} {a : Addr} {xs ys : List V}
theorem SqL.of {K : PySem.W.Frag} (h : H a = some (.lst xs)) : SqL K H a xs := .inl (.inl h)
theorem SqT.of {K : PySem.W.Frag} (h : H a = some (.tup xs)) : SqT K H a xs := .inl (.inl h)
theorem Inv.list (I : Inv X pins σ H s) (h : SqL X.K H a xs) : ∃ its : List Value, Vals xs its /\ PlainL s.heap a its.toArray /\ xs.length <= sizeLine := by
 rcases h with h | ⟨o, its, n, hk, hc, hd, hs, hz, r⟩
 ·obtain ⟨z, its, n, r, e⟩ := h.ok I.hok;exact ⟨its, r, ⟨_, n, e, rfl, rfl, rfl⟩, z⟩
 ·refine ⟨its.toList, r, ⟨o, n, I.kIn a o hk, hc, hd, by simpa using hs⟩, ?_⟩;have e := r.length;simp only [Array.length_toList] at e;lia
theorem Inv.tuple (I : Inv X pins σ H s) (h : SqT X.K H a xs) : ∃ its : List Value, Vals xs its /\ IsTup s.heap a its.toArray /\ xs.length <= sizeLine := by
 rcases h with h | ⟨o, its, n, hk, hc, hs, hz, r⟩
 ·obtain ⟨z, its, r, p⟩ := h.ok I.hok;exact ⟨its, r, p, z⟩
 ·refine ⟨its.toList, r, ⟨o, I.kIn a o hk, hc, n, by simpa using hs⟩, ?_⟩;have e := r.length;simp only [Array.length_toList] at e;lia
theorem Inv.list_inj (I : Inv X pins σ H s) (h : SqL X.K H a xs) (h' : SqL X.K H a ys) : xs = ys := by
 obtain ⟨its, r, ⟨o, n, e, _, _, d⟩, _⟩ := I.list h;obtain ⟨its', r', ⟨o', n', e', _, _, d'⟩, _⟩ := I.list h';rw [e] at e'; cases e';rw [d] at d';injection d' with d1 _;have : its = its' := by simpa using congrArg Array.toList d1
 subst this;exact r.inj r'
theorem Inv.tuple_inj (I : Inv X pins σ H s) (h : SqT X.K H a xs) (h' : SqT X.K H a ys) : xs = ys := by
 obtain ⟨its, r, ⟨o, e, _, n, d⟩, _⟩ := I.tuple h;obtain ⟨its', r', ⟨o', e', _, n', d'⟩, _⟩ := I.tuple h';rw [e] at e'; cases e';rw [d] at d';injection d' with d1 _;have : its = its' := by simpa using congrArg Array.toList d1
 subst this;exact r.inj r'
end
abbrev Cx.wish (X : Cx) (E : Value -> Shared -> Prop) : Cx := { X with xe := E }
abbrev Cx.nox (X : Cx) : Cx := X.wish fun _ _ => False
theorem Cx.Ok.wish {X : Cx} (ok : X.Ok) (E : Value -> Shared -> Prop) : (X.wish E).Ok :=
 ⟨ok.mod, ok.kind, ok.glob, ok.blt, ok.above, ok.inj, ok.has, ok.cab, ok.hd, ok.frames, ok.stk, ok.exf, ok.bs, ok.bsz, ok.noex, ok.exfs, ok.funs, ok.frf⟩
theorem Cx.Ok.unwish {X : Cx} {E : Value -> Shared -> Prop} (ok : (X.wish E).Ok) : X.Ok :=
 ⟨ok.mod, ok.kind, ok.glob, ok.blt, ok.above, ok.inj, ok.has, ok.cab, ok.hd, ok.frames, ok.stk, ok.exf, ok.bs, ok.bsz, ok.noex, ok.exfs, ok.funs, ok.frf⟩
section
variable {X : Cx} {pins : List (Addr × Obj)} {σ : St} {H : Hp} {s : Shared} {E : Value -> Shared -> Prop}
theorem Inv.wish (I : Inv X pins σ H s) (E : Value -> Shared -> Prop) : Inv (X.wish E) pins σ H s := ⟨I.ok.wish E, I.os, I.bare, I.base, I.loc, I.cell, I.free, I.freeC, I.pin, I.hok, I.len⟩
theorem Inv.unwish (I : Inv (X.wish E) pins σ H s) : Inv X pins σ H s := ⟨I.ok.unwish, I.os, I.bare, I.base, I.loc, I.cell, I.free, I.freeC, I.pin, I.hok, I.len⟩
theorem SP.unwish {D : zfv} {f : Flow} {s' : Shared} (h : SP (X.wish E) pins D f s') : SP X pins D f s' := by
 cases f with
 | next => obtain ⟨σ', H', I, q⟩ := h; exact ⟨σ', H', I.unwish, q⟩
 | brk => obtain ⟨σ', H', I, q⟩ := h; exact ⟨σ', H', I.unwish, q⟩
 | cont => obtain ⟨σ', H', I, q⟩ := h; exact ⟨σ', H', I.unwish, q⟩
 | ret u => obtain ⟨v, σ', H', I, r, q⟩ := h; exact ⟨v, σ', H', I.unwish, r, q⟩
theorem PSs.nox {st : List Stmt} {t : TS} (h : PSs X.nox st t) : PSs X st t := fun pins s σ H D I hw =>
 wpAny_mono (h pins s σ H D (I.wish _) hw) (fun _ _ q => q.unwish) fun _ _ z => False.elim z
end
section
variable {X : Cx} {st : Stmt} {zal : List Stmt} {t u : TS} {e : Expr} {te : TE} {pos : Pos}
def zFb : TS := fun D σ H => D.nx σ H
def zGe (t u : TS) : TS := fun D σ H => t { D with nx := u D } σ H
theorem xB : PSs X [] zFb := fun _ _ σ H _ I h => wpAny_execs_nil ⟨σ, H, I, h⟩
theorem zD (h1 : PS X st t) (h2 : PSs X zal u) : PSs X (st :: zal) (zGe t u) := by
 intro pins s σ H D I h;refine wpAny_execs_cons (thn (h1 pins s σ H { D with nx := u D } I h) fun f s1 q => ?_);cases f with
 | next =>
  obtain ⟨σ', H', I', q⟩ := q;exact h2 pins s1 σ' H' D I' q
 | ret v => exact q
 | brk => exact q
 | cont => exact q
theorem zG (h1 : PS X st t) : PSs X [st] t := by
 intro pins s σ H D I h;refine wpAny_execs_cons (thn (h1 pins s σ H D I h) fun f s1 q => ?_);cases f with
 | next => exact wpAny_execs_nil q
 | ret v => exact q
 | brk => exact q
 | cont => exact q
theorem Inv.quiet {pins : List (Addr × Obj)} {σ : St} {H : Hp} {s : Shared} (I : Inv X pins σ H s) : interactive X.env = false := by simp [interactive, I.ok.kind]
def zAh (te : TE) : TS := fun D σ H => te σ H fun _ H1 => D.nx σ H1
theorem wV (he : PE X e te) (hs : swapsWith e none pos.line X.env = pure false := by rfl) : PS X (.Expr e pos) (zAh te) := by
 intro pins s σ H D I h;exact wpAny_Expr_any (thn (he pins s σ H _ I h) fun v s1 ⟨x, H1, I1, r1, q1⟩ => ⟨σ, H1, I1, q1⟩) I.quiet hs
def zGy (te : TE) : TS := fun D σ H => te σ H D.rt
theorem zO (he : PE X e te) : PS X (.Return (some e) pos) (zGy te) := by
 intro pins s σ H D I h;exact wpAny_Return_some (thn (he pins s σ H _ I h) fun v s1 ⟨x, H1, I1, r1, q1⟩ => ⟨x, σ, H1, I1, r1, q1⟩)
def zHb (c : TT) (t u : TS) : TS := fun D σ H => c σ H fun b H1 => if b = true then t D σ H1 else u D σ H1
theorem wU {c : Expr} {a b : List Stmt} {tc : TT} (hc : PT X c tc) (ha : PSs X a t) (hb : PSs X b u) : PS X (.If c a b pos) (zHb tc t u) := by
 intro pins s σ H D I h;refine wpAny_If (thn (hc pins s σ H _ I h) fun d s1 ⟨H1, I1, q1⟩ => ?_);cases d with
 | true => exact ha pins s1 σ H1 D I1 q1
 | false => exact hb pins s1 σ H1 D I1 q1
def zBo : TS := fun _ _ _ => False
theorem vU {sts : List Stmt} : PSs X sts zBo := fun _ _ _ _ _ _ h => h.elim
end
abbrev TG := V -> St -> Hp -> (St -> Hp -> Prop) -> Prop
abbrev TGs := List V -> St -> Hp -> (St -> Hp -> Prop) -> Prop
def PG (X : Cx) (target : Expr) (t : TG) : Prop :=
 ∀ (pins : List (Addr × Obj)) (s : Shared) (σ : St) (H : Hp) (v : V) (u : Value) (Q : St -> Hp -> Prop), Inv X pins σ H s -> RelV v u -> t v σ H Q ->
  wpAny (model X.prog X.w) X.A (assign target X.env u) (fun _ s' => ∃ σ' H', Inv X pins σ' H' s' /\ Q σ' H') X.xe s
def PGs (X : Cx) (ts : List Expr) (t : TGs) : Prop :=
 ∀ (pins : List (Addr × Obj)) (s : Shared) (σ : St) (H : Hp) (vs : List V) (us : List Value) (Q : St -> Hp -> Prop), Inv X pins σ H s -> Vals vs us -> t vs σ H Q ->
  wpAny (model X.prog X.w) X.A (assignInOrder ((assignEach ts X.env).map (·.2)) us) (fun _ s' => ∃ σ' H', Inv X pins σ' H' s' /\ Q σ' H') X.xe s
abbrev zEs := V -> V -> V -> Hp -> (Hp -> Prop) -> Prop
def zGv (X : Cx) (t : zEs) : Prop :=
 ∀ (pins : List (Addr × Obj)) (s : Shared) (σ : St) (H : Hp) (o i v : V) (ov iv u : Value) (Q : Hp -> Prop), Inv X pins σ H s -> RelV o ov -> RelV i iv -> RelV v u -> t o i v H Q ->
  wpAny (model X.prog X.w) X.A (setItem ov iv u) (fun _ s' => ∃ H', Inv X pins σ H' s' /\ Q H') X.xe s
section
variable {X : Cx} {pos : Pos}
def yB (i : Nat) : TG := fun v σ H Q => Q (σ.set i (some v)) H
theorem zI {i : Nat} {x : Str} (hN : X.N.Nodup) (hi : X.N[i]? = some x) (hx : Loc X.env.scope x) (hf : X.fn x = true \/ X.env.scope.names.lookup x = some .local := by first | exact .inl rfl | exact .inr rfl | assumption) : PG X (.Name x pos) (yB i) := by
 intro pins s σ H v u Q I r h;exact wpAny_assign_Name (zjk I hN hi hx r (fun s' I' => ⟨_, H, I', h⟩) hf)
def zoz : TGs := fun vs σ H Q => vs = [] /\ Q σ H
def w4 (t : TG) (u : TGs) : TGs := fun vs σ H Q => ∃ v r, vs = v :: r /\ t v σ H fun σ' H' => u r σ' H' Q
theorem wB : PGs X [] zoz := by
 intro pins s σ H vs us Q I r h;obtain ⟨e, h⟩ := h;subst e;cases r
 exact assignInOrder_nil ⟨σ, H, I, h⟩
theorem zW {e : Expr} {es : List Expr} {t : TG} {u : TGs} (h1 : PG X e t) (h2 : PGs X es u)
  (hs : (assignEach (e :: es) X.env).map (·.2) = assign e X.env :: (assignEach es X.env).map (·.2) := by rfl) : PGs X (e :: es) (w4 t u) := by
 intro pins s σ H vs us Q I r h;obtain ⟨v, vr, e1, h⟩ := h;subst e1;cases r with
 | cons r rr =>
  rw [hs];refine assignInOrder_cons (thn (h1 pins s σ H _ _ _ I r h) fun _ s1 ⟨σ1, H1, I1, q1⟩ => ?_);exact h2 pins s1 σ1 H1 _ _ Q I1 rr q1
def zmi (K : PySem.W.Frag) (n : Nat) (t : TGs) : TG := fun v σ H Q => ∃ a xs, v = .ref a /\ SqT K H a xs /\ xs.length = n /\ t xs σ H Q
theorem zCr {es : List Expr} {k : Nat} {t : TGs} {n : Nat} (hc : X.calm = true) (h : PGs X es t)
  (hn : (assignEach es X.env).length = n := by rfl) (hst : (assignEach es X.env).findIdx? (·.1) = none := by rfl) : PG X (.Tuple es k pos) (zmi X.K n t) := by
 intro pins s σ H v u Q I r hw;obtain ⟨a, xs, e1, hq, hl, hw⟩ := hw;subst e1;cases r
 obtain ⟨its, rv, ht, hz⟩ := I.tuple hq;refine assign_Tuple_tuple (I.ok.hd hc) ht (by simp [hn, <- hl, rv.length]) hst fun h' hx => ?_;have I1 : Inv X pins σ H { s with heap := h' } := I.kept (t' := s.toks) fun b o e => hx b o (Q7 (Qt e)) e;exact h pins _ σ H xs _ Q I1 (by simpa using rv) hw
def zIb (to ti : TE) (t : zEs) : TG := fun v σ H Q => to σ H fun o H1 => ti σ H1 fun i H2 => t o i v H2 fun H3 => Q σ H3
theorem znc {o i : Expr} {to ti : TE} {t : zEs} (ho : PE X o to) (hi : PE X i ti) (hs : zGv X t)
  (ha : ∀ v, assign (.Subscript o i pos) X.env v = (do
   let ov <- holding [v] (eval o X.env)
   let iv <- holding [v, ov] (eval i X.env)
   standAt pos
   holding [v, ov, iv] (setItem ov iv v)
   release [v, ov, iv] []) := by intro _; rfl) : PG X (.Subscript o i pos) (zIb to ti t) := by
 intro pins s σ H v u Q I r h;rw [ha];refine Qq (wpAny_holding (thn (ho pins s σ H _ I h) fun ov s1 ⟨x, H1, I1, r1, q1⟩ => ?_));refine Qq (wpAny_holding (thn (hi pins s1 σ H1 _ I1 q1) fun iv s2 ⟨y, H2, I2, r2, q2⟩ => ?_));refine Qq (wpAny_standAt (Qq (wpAny_holding (thn (hs pins s2 σ H2 x y v ov iv u _ I2 r1 r2 r q2) fun _ s3 ⟨H3, I3, q3⟩ => ?_))));exact wpAny_release ⟨σ, H3, I3, q3⟩
def zEk (te : TE) (g : TG) : TS := fun D σ H => te σ H fun x H1 => g x σ H1 D.nx
theorem znb {tg e : Expr} {te : TE} {g : TG} (he : PE X e te) (hg : PG X tg g) (hs : swapsWithSole [tg] e pos.line X.env = pure false := by rfl) (hw : swappedStores [tg] e X.env = pure none := by rfl)
  (h1 : (assignEach [tg] X.env).map (·.2) = [assign tg X.env] := by rfl) : PS X (.Assign [tg] e pos) (zEk te g) := by
 intro pins s σ H D I h;refine wpAny_Assign_stores (thn (he pins s σ H _ I h) fun v s1 ⟨x, H1, I1, r1, q1⟩ => ?_) hs hw;rw [h1];exact thn (hg pins s1 σ H1 x v _ I1 r1 q1) fun _ s2 q => q
theorem zJ {i : Nat} {x : Str} {e : Expr} {te : TE} {pos' : Pos} (hN : X.N.Nodup) (hi : X.N[i]? = some x) (hx : Loc X.env.scope x) (he : PE X e te) (hs : swapsWith e (some (.Name x pos')) pos.line X.env = pure false := by rfl) (hf : X.fn x = true \/ X.env.scope.names.lookup x = some .local := by first | exact .inl rfl | exact .inr rfl | assumption) :
  PS X (.Assign [.Name x pos'] e pos) (zEk te (yB i)) := by
 intro pins s σ H D I h;refine wpAny_Assign_Name (thn (he pins s σ H _ I h) fun v s1 ⟨y, H1, I1, r1, q1⟩ => ?_) hs;exact zjk I1 hN hi hx r1 (fun s2 I2 => ⟨_, H1, I2, q1⟩) hf
def zBn (c : TT) (tb : TS) : TS := fun D σ H => ∃ W : Nat -> St -> Hp -> Prop, (∃ m, W m σ H) /\ ∀ m σ H, W m σ H ->
 c σ H fun b H1 => if b = true then ∃ N : St -> Hp -> Prop, (∀ σ' H', N σ' H' -> ∃ m', m' < m /\ W m' σ' H') /\ tb { D with nx := N, ct := N, bk := D.nx } σ H1 else D.nx σ H1
theorem kX {c : Expr} {body : List Stmt} {tc : TT} {tb : TS} (hp : PassesOwn (model X.prog X.w) X.A X.env X.xe) (hc : PT X c tc) (hb : PSs X body tb) : PS X (.While c body [] pos) (zBn tc tb) := by
 intro pins s σ H D I h;obtain ⟨W, ⟨m0, w0⟩, turn⟩ := h;refine wpAny_While (codeAny_whileLoop (fun n s' => ∃ σ' H', Inv X pins σ' H' s' /\ W n σ' H') ?_ m0 ⟨σ, H, I, w0⟩);rintro n s1 ⟨σ1, H1, I1, w1⟩;refine wpAny_passesOwn hp (thn (hc pins s1 σ1 H1 _ I1 (turn n σ1 H1 w1)) fun b s2 ⟨H2, I2, q2⟩ => ?_);cases b with
 | true =>
  obtain ⟨N, hN, q2⟩ := q2;rw [if_pos rfl];refine wpAny_passesOwn hp (thn (hb pins s2 σ1 H2 _ I2 q2) fun f s3 q3 => ?_);cases f with
  | next =>
   obtain ⟨σ3, H3, I3, n3⟩ := q3;obtain ⟨m', hm, w3⟩ := hN σ3 H3 n3;exact ⟨m', hm, σ3, H3, I3, w3⟩
  | cont =>
   obtain ⟨σ3, H3, I3, n3⟩ := q3;obtain ⟨m', hm, w3⟩ := hN σ3 H3 n3;exact ⟨m', hm, σ3, H3, I3, w3⟩
  | brk => exact q3
  | ret v => exact q3
 | false =>
  rw [if_neg Q1];exact wpAny_execs_nil ⟨σ1, H2, I2, q2⟩
end
structure It where
 go : Nat -> Hp -> Prop
 yld : Nat -> Hp -> V -> Hp -> Prop
 stop : Nat -> Hp -> Prop
def zfu (X : Cx) (pins : List (Addr × Obj)) (H : Hp) (b : Addr) : Prop :=
 H b = none /\ b ≠ X.env.locals /\ b ∉ X.fs /\ (b ∈ X.ex \/ X.s₀.heap.objs.size <= b) /\ (∀ x c, X.env.cells.lookup x = some c -> c ≠ b) /\ ∀ p ∈ X.pn ++ pins, p.1 ≠ b
theorem Inv.fpOk {X : Cx} {pins : List (Addr × Obj)} {σ : St} {H H' : Hp} {s : Shared} {b : Addr} (I : Inv X pins σ H s) (hb : s.heap.objs.size <= b) (hn : H' b = none) : zfu X pins H' b := by
 refine ⟨hn, Nat.ne_of_gt (Jv I.lt hb), I.nofs hb, .inr (Jx I.sz hb), fun x c e z => ?_, fun p hp z => ?_⟩
 ·obtain ⟨v, q⟩ := I.cell x c e;exact absurd (Jv q.lt (by rw [z]; exact hb)) (Wn _)
 ·exact absurd (Jv (Qt (I.pin p hp).1) (by rw [z]; exact hb)) (Wn _)
structure zsn (P : Program) (w : World) (K : PySem.W.Frag) (tg : Expr) (J : It) (fp : List Addr) (it : Addr) (tn : Nat -> Heap -> Prop) : Prop where
 mem : it ∈ fp
 obj : ∀ i h, tn i h -> ∀ b ∈ fp, ∃ o, h.get? b = some o /\ ∀ v, o.data ≠ .cell v
 keep : ∀ i h h', tn i h -> (∀ b ∈ fp, ∀ o, h.get? b = some o -> h'.get? b = some o) -> tn i h'
 item : ∀ (X : Cx), X.prog = P -> X.w = w -> X.K = K -> X.calm = true -> ∀ (i : Nat) (pins : List (Addr × Obj)) (s : Shared) (σ : St) (H : Hp) (E : Value -> Shared -> Prop), Inv X pins σ H s -> (∀ b ∈ fp, zfu X pins H b) -> tn i s.heap -> J.go i H ->
  wpAny (model P w) X.A (pyNext (.ref it)) (fun r s1 => ∃ u, r = some u /\
   wpAny (model P w) X.A (letOwnedTupleGo tg (.ref it) u) (fun _ s2 => ∃ x H', Inv X pins σ H' s2 /\ RelV x u /\ J.yld i H x H' /\ tn (i + 1) s2.heap /\ ∀ b ∈ fp, H' b = none) E s1) E s
 done : ∀ (X : Cx), X.prog = P -> X.w = w -> X.K = K -> X.calm = true -> ∀ (i : Nat) (pins : List (Addr × Obj)) (s : Shared) (σ : St) (H : Hp) (E : Value -> Shared -> Prop), Inv X pins σ H s -> (∀ b ∈ fp, zfu X pins H b) -> tn i s.heap -> J.stop i H ->
  wpAny (model P w) X.A (pyNext (.ref it)) (fun r s1 => r = none /\ Inv X pins σ H s1) E s
 self : ∀ (A : Around) (i : Nat) (s : Shared) (Q : Value -> Shared -> Prop) (E : Value -> Shared -> Prop), tn i s.heap -> Q (.ref it) s -> wpAny (model P w) A (pyIter (.ref it)) Q E s
abbrev TI := St -> Hp -> (It -> Hp -> Prop) -> Prop
def PIE (X : Cx) (pins : List (Addr × Obj)) (σ : St) (tg : Expr) (R : It -> Hp -> Prop) (itv : Value) (s2 : Shared) : Prop :=
 ∃ (it : Addr) (fp : List Addr) (tn : Nat -> Heap -> Prop) (J : It) (H' : Hp), itv = .ref it /\ Inv X pins σ H' s2 /\ zsn X.prog X.w X.K tg J fp it tn /\ tn 0 s2.heap /\ (∀ b ∈ fp, zfu X pins H' b) /\ R J H'
def PI (X : Cx) (tg iter : Expr) (wi : TI) : Prop :=
 ∀ (pins : List (Addr × Obj)) (s : Shared) (σ : St) (H : Hp) (R : It -> Hp -> Prop), Inv X pins σ H s -> wi σ H R ->
  wpAny (model X.prog X.w) X.A (eval iter X.env) (fun v s1 => wpAny (model X.prog X.w) X.A (pyIter v) (PIE X pins σ tg R) X.xe s1) X.xe s
theorem zxd {M : Model} {A : Around} {E : Value -> Shared -> Prop} {s : Shared} {tg : Expr} {it : Addr} {u : Value} {o : Obj} {n : String} {vs : Array Value} {Q : Unit -> Shared -> Prop} (ho : s.heap.get? it = some o) (hc : o.cls = .type n) (hd : o.data = .fields vs)
  (hn : ["enumerate", "zip", "dict_itemiterator", "dict_reverseitemiterator", "odict_iterator", "itertools.zip_longest", "itertools.pairwise"].contains n = false) (hQ : Q () s) : wpAny M A (letOwnedTupleGo tg (.ref it) u) Q E s := by
 unfold letOwnedTupleGo;cases tg <;> first
  | exact Qv hQ
  | (cases u <;> first
    | exact Qv hQ
    | (refine Qq (wpAny_load ho ?_)
       rw [hc, hd];show wpAny M A (if (["enumerate", "zip", "dict_itemiterator", "dict_reverseitemiterator", "odict_iterator", "itertools.zip_longest", "itertools.pairwise"].contains n && vs[0]? == some (rawInt _)) = true then _ else _) Q E s;rw [if_neg (by intro h; rw [hn, Bool.false_and] at h; cases h)];exact Qv hQ))
def Itl (K : PySem.W.Frag) (a : Addr) : It :=
 ⟨fun i H => ∃ xs x, SqL K H a xs /\ xs[i]? = some x, fun i H x H' => H' = H /\ ∀ xs, SqL K H a xs -> xs[i]? = some x, fun i H => ∃ xs, SqL K H a xs /\ xs.length <= i⟩
def Itt (K : PySem.W.Frag) (a : Addr) : It :=
 ⟨fun i H => ∃ xs x, SqT K H a xs /\ xs[i]? = some x, fun i H x H' => H' = H /\ ∀ xs, SqT K H a xs -> xs[i]? = some x, fun i H => ∃ xs, SqT K H a xs /\ xs.length <= i⟩
def Itr (lo : Int) (n : Nat) : It := ⟨fun i _ => i < n, fun i H x H' => H' = H /\ x = .int (lo + i), fun i _ => n <= i⟩
theorem zpq {P : Program} {w : World} {K : PySem.W.Frag} {tg : Expr} (a it : Addr) : zsn P w K tg (Itl K a) [it] it (fun i h => h.IsListIter it a i) where
 mem := by simp
 obj := fun i h st b hb => by
  have e : b = it := by simpa using hb
  subst e;obtain ⟨o, e, c, d⟩ := st;exact ⟨o, e, fun v z => by rw [d] at z; cases z⟩
 keep := fun i h h' st k => st.at fun o e => k it (by simp) o e
 item := by
  intro X hP hw hK hc i pins s σ H E I hf st hg;subst hP hw hK;obtain ⟨xs, x, hq, hx⟩ := hg;obtain ⟨its, rv, p, hz⟩ := I.list hq;obtain ⟨u, hu, ru⟩ := rv.get hx;obtain ⟨f0, f1, f2, f3, f4, f5⟩ := hf it (by simp);refine wpAny_pyNext_list_item st p.isList (x := u) (by simpa using hu) fun h' st' sb => ?_;have I1 : Inv X pins σ H { s with heap := h' } := I.turned (t' := s.toks) (fun b o hb e => (sb.2 b hb).trans e) f0 f1 f3 f4 f5;obtain ⟨o, e, c, d⟩ := id st';exact ⟨u, rfl, zxd (s := { s with heap := h' }) e c d (by decide) ⟨x, H, I1, ru, ⟨rfl, fun ys hy => by rw [I.list_inj hy hq]; exact hx⟩, st', fun b hb => (hf b hb).1⟩⟩
 done := by
  intro X hP hw hK hc i pins s σ H E I hf st hg;subst hP hw hK;obtain ⟨xs, hq, hx⟩ := hg;obtain ⟨its, rv, p, hz⟩ := I.list hq;obtain ⟨f0, f1, f2, f3, f4, f5⟩ := hf it (by simp);have hl := rv.length;exact wpAny_pyNext_list_end (I.ok.hd hc) st p.isList (by simp; lia) fun h' eb => ⟨rfl, I.turned (t' := s.toks) (fun b o hb e => eb b o hb e) f0 f1 f3 f4 f5⟩
 self := fun _ _ _ _ _ st h => wpAny_pyIter_listiter st h
theorem zlp {P : Program} {w : World} {K : PySem.W.Frag} {tg : Expr} (a it : Addr) : zsn P w K tg (Itt K a) [it] it (fun i h => h.IsTupleIter it a i) where
 mem := by simp
 obj := fun i h st b hb => by
  have e : b = it := by simpa using hb
  subst e;obtain ⟨o, e, c, d⟩ := st;exact ⟨o, e, fun v z => by rw [d] at z; cases z⟩
 keep := fun i h h' st k => st.at fun o e => k it (by simp) o e
 item := by
  intro X hP hw hK hc i pins s σ H E I hf st hg;subst hP hw hK;obtain ⟨xs, x, hq, hx⟩ := hg;obtain ⟨its, rv, p, hz⟩ := I.tuple hq;obtain ⟨u, hu, ru⟩ := rv.get hx;obtain ⟨f0, f1, f2, f3, f4, f5⟩ := hf it (by simp);refine wpAny_pyNext_tuple_item st (show s.heap.IsTuple a its.toArray from p) (x := u) (by simpa using hu) fun h' st' sb => ?_;have I1 : Inv X pins σ H { s with heap := h' } := I.turned (t' := s.toks) (fun b o hb e => (sb.2 b hb).trans e) f0 f1 f3 f4 f5;obtain ⟨o, e, c, d⟩ := id st';exact ⟨u, rfl, zxd (s := { s with heap := h' }) e c d (by decide) ⟨x, H, I1, ru, ⟨rfl, fun ys hy => by rw [I.tuple_inj hy hq]; exact hx⟩, st', fun b hb => (hf b hb).1⟩⟩
 done := by
  intro X hP hw hK hc i pins s σ H E I hf st hg;subst hP hw hK;obtain ⟨xs, hq, hx⟩ := hg;obtain ⟨its, rv, p, hz⟩ := I.tuple hq;obtain ⟨f0, f1, f2, f3, f4, f5⟩ := hf it (by simp);have hl := rv.length;exact wpAny_pyNext_tuple_end (I.ok.hd hc) st (show s.heap.IsTuple a its.toArray from p) (by simp; lia) fun h' eb => ⟨rfl, I.turned (t' := s.toks) (fun b o hb e => eb b o hb e) f0 f1 f3 f4 f5⟩
 self := fun _ _ _ _ _ st h => wpAny_pyIter_tupleiter st h
theorem zlq {P : Program} {w : World} {K : PySem.W.Frag} {tg : Expr} (it : Addr) (lo : Int) (n : Nat) : zsn P w K tg (Itr lo n) [it] it (fun i h => IsRangeIter h it (lo + (i : Nat) * 1) ((n : Int) - (i : Nat)) 1) where
 mem := by simp
 obj := fun i h st b hb => by
  have e : b = it := by simpa using hb
  subst e;exact ⟨_, st, fun v z => by
   have z' : Data.fields _ = Data.cell v := z;cases z'⟩
 keep := fun i h h' st k => k it (by simp) _ st
 item := by
  intro X hP hw hK hc i pins s σ H E I hf st hg;subst hP hw hK;obtain ⟨f0, f1, f2, f3, f4, f5⟩ := hf it (by simp);have W := Walks.range (prog := X.prog) (w := X.w) (I.ok.hd hc) it lo 1 n;refine W.item i s _ _ hg st fun v h' tk hv st' kk => ?_;obtain ⟨t, rfl⟩ := hv;have I1 : Inv X pins σ H { s with heap := h', toks := tk } := I.turned (fun b o hb e => kk b o (by simpa using hb) e) f0 f1 f3 f4 f5;refine ⟨_, rfl, zxd (s := { s with heap := h', toks := tk }) (n := "range_iterator") st' rfl rfl (by decide) ⟨.int (lo + i), H, I1, ⟨t, ?_⟩, ⟨rfl, rfl⟩, st', fun b hb => (hf b hb).1⟩⟩;rw [Int.mul_one]
 done := by
  intro X hP hw hK hc i pins s σ H E I hf st hg;subst hP hw hK;obtain ⟨f0, f1, f2, f3, f4, f5⟩ := hf it (by simp);exact wpAny_pyNext_range_end (I.ok.hd hc) st (by have : n <= i := hg; lia) fun h' eb => ⟨rfl, I.turned (t' := s.toks) (fun b o hb e => eb b o hb e) f0 f1 f3 f4 f5⟩
 self := fun _ _ _ _ _ st h => wpAny_pyIter_rangeiter st h
section
variable {X : Cx} {tg : Expr}
def zFp (K : PySem.W.Frag) (tl : TE) : TI := fun σ H R => tl σ H fun x H1 => ∃ a, x = .ref a /\ (∃ xs, SqL K H1 a xs) /\ R (Itl K a) H1
def zIa (K : PySem.W.Frag) (tl : TE) : TI := fun σ H R => tl σ H fun x H1 => ∃ a, x = .ref a /\ (∃ xs, SqT K H1 a xs) /\ R (Itt K a) H1
theorem zog {l : Expr} {tl : TE} (hl : PE X l tl) : PI X tg l (zFp X.K tl) := by
 intro pins s σ H R I h;refine thn (hl pins s σ H _ I h) fun v s1 ⟨x, H1, I1, r1, q1⟩ => ?_;obtain ⟨a, e, ⟨xs, hq⟩, q⟩ := q1;subst e;cases r1
 obtain ⟨its, rv, p, hz⟩ := I1.list hq;refine wpAny_pyIter_list p.isList ?_;refine ⟨s1.heap.objs.size, [s1.heap.objs.size], _, _, H1, rfl, I1.kept (t' := s1.toks) fun b o e => Qz _ e, zpq a _, ⟨_, Qb _ rfl, rfl, rfl⟩, fun b hb => ?_, q⟩;have e : b = s1.heap.objs.size := by simpa using hb
 subst e;exact I1.fpOk (Qw _) (I1.hok.fresh (Qw _))
theorem zCp {l : Expr} {tl : TE} (hl : PE X l tl) : PI X tg l (zIa X.K tl) := by
 intro pins s σ H R I h;refine thn (hl pins s σ H _ I h) fun v s1 ⟨x, H1, I1, r1, q1⟩ => ?_;obtain ⟨a, e, ⟨xs, hq⟩, q⟩ := q1;subst e;cases r1
 obtain ⟨its, rv, p, hz⟩ := I1.tuple hq;refine wpAny_pyIter_tuple (show s1.heap.IsTuple a its.toArray from p) ?_;refine ⟨s1.heap.objs.size, [s1.heap.objs.size], _, _, H1, rfl, I1.kept (t' := s1.toks) fun b o e => Qz _ e, zlp a _, ⟨_, Qb _ rfl, rfl, rfl⟩, fun b hb => ?_, q⟩;have e : b = s1.heap.objs.size := by simpa using hb
 subst e;exact I1.fpOk (Qw _) (I1.hok.fresh (Qw _))
theorem zka {pins : List (Addr × Obj)} {σ : St} {H : Hp} {s : Shared} {R : It -> Hp -> Prop} {E : Value -> Shared -> Prop} {lo hi : Int} {t u v : Tok} {tk : Nat} (I : Inv X pins σ H s) (h1 : -(2 ^ 62) <= lo) (h2 : lo < 2 ^ 62) (h3 : -(2 ^ 62) <= hi) (h4 : hi < 2 ^ 62)
  (q : R (Itr lo (hi - lo).toNat) H) : wpAny (model X.prog X.w) X.A (pyIter (.ref s.heap.objs.size)) (PIE X pins σ tg R) E { s with heap := s.heap.push { cls := .type "range", data := .fields #[.int lo t, .int hi u, .int 1 v] }, toks := tk } := by
 refine wpAny_pyIter_range (IsRange.new ..) (small_one h1 h2 h3 h4) ?_;have I1 : Inv X pins σ H { s with heap := s.heap.push { cls := .type "range", data := .fields #[.int lo t, .int hi u, .int 1 v] }, toks := tk } := I.kept fun b o e => Qz _ e;refine ⟨(s.heap.push { cls := .type "range", data := .fields #[.int lo t, .int hi u, .int 1 v] }).objs.size, [(s.heap.push { cls := .type "range", data := .fields #[.int lo t, .int hi u, .int 1 v] }).objs.size], _, _, H, rfl,
  I1.kept (t' := tk) fun b o e => Qz _ e, zlq _ lo (hi - lo).toNat, ?_, fun b hb => ?_, q⟩
 ·have e1 : lo + ((0 : Nat) : Int) * 1 = lo := by simp
  have e2 : (((hi - lo).toNat : Nat) : Int) - ((0 : Nat) : Int) = Builtin.Range.rangeSize lo hi 1 := by rw [rangeSize_one]; split <;> lia
  show IsRangeIter _ _ (lo + ((0 : Nat) : Int) * 1) ((((hi - lo).toNat : Nat) : Int) - ((0 : Nat) : Int)) 1;rw [e1, e2];exact Qb _ rfl
 ·have e : b = (s.heap.push { cls := .type "range", data := .fields #[.int lo t, .int hi u, .int 1 v] }).objs.size := by simpa using hb
  subst e;exact I1.fpOk (Qw _) (I1.hok.fresh (Qw _))
def zFo (ta : TA) : TI := fun σ H R => ta σ H fun vs H1 => ∃ j : Int, vs = [.int j] /\ -(2 ^ 62) <= j /\ j < 2 ^ 62 /\ R (Itr 0 j.toNat) H1
def zAw (ta : TA) : TI := fun σ H R => ta σ H fun vs H1 => ∃ i j : Int, vs = [.int i, .int j] /\ (-(2 ^ 62) <= i /\ i < 2 ^ 62 /\ -(2 ^ 62) <= j /\ j < 2 ^ 62) /\ R (Itr i (j - i).toNat) H1
theorem xY {a : Expr} {ta : TA} {p pos : Pos} (hg : Gl X "range") (hm : X.mg "range" = none) (ha : PA X [a] ta) (hs : starEach [a] X.env = [(false, eval a X.env)] := by rfl) : PI X tg (.Call (.Name "range" p) [a] [] pos) (zFo ta) := by
 intro pins s σ H R I h;refine Call_ (zbf I hg hm boot_range (PyProof.Rows.callWith_type1 (thn (ha pos pins s σ H _ I h) fun us s1 ⟨vs, H1, I1, r1, q1⟩ => ?_) hs rfl));obtain ⟨j, e, q1, q2, q⟩ := q1;subst e;cases r1 with
 | cons r rr =>
  cases rr
  obtain ⟨t, rfl⟩ := r;exact call_range_1 (zka I1 (by lia) (by lia) q1 q2 (by simpa using q))
theorem zqf {a b : Expr} {ta : TA} {p pos : Pos} (hg : Gl X "range") (hm : X.mg "range" = none) (ha : PA X [a, b] ta) (hs : starEach [a, b] X.env = [(false, eval a X.env), (false, eval b X.env)] := by rfl) (hs2 : starEach [b] X.env = [(false, eval b X.env)] := by rfl) :
  PI X tg (.Call (.Name "range" p) [a, b] [] pos) (zAw ta) := by
 intro pins s σ H R I h;refine Call_ (zbf I hg hm boot_range (PyProof.Rows.callWith_type1 (thn (ha pos pins s σ H _ I h) fun us s1 ⟨vs, H1, I1, r1, q1⟩ => ?_) (by rw [hs, hs2]) (by rw [hs2]; rfl)));obtain ⟨i, j, e, ⟨q1, q2, q3, q4⟩, q⟩ := q1;subst e;cases r1 with
 | cons r rr =>
  cases rr with
  | cons r' rr =>
   cases rr
   obtain ⟨t, rfl⟩ := r;obtain ⟨t', rfl⟩ := r';exact call_range_2 (zka I1 q1 q2 q3 q4 q)
def zHc (wi : TI) (g : TG) (tb : TS) : TS := fun D σ H => wi σ H fun J H1 => ∃ W : Nat -> Nat -> St -> Hp -> Prop, (∃ m, W 0 m σ H1) /\ ∀ i m σ H, W i m σ H ->
 (J.stop i H /\ D.nx σ H) \/ (J.go i H /\ ∃ N : St -> Hp -> Prop, (∀ σ' H', N σ' H' -> ∃ m', m' < m /\ W (i + 1) m' σ' H') /\ ∀ x H', J.yld i H x H' -> g x σ H' fun σ2 H2 => tb { D with nx := N, ct := N, bk := D.nx } σ2 H2)
def zdq (fp : List Addr) (h : Heap) : List (Addr × Obj) := fp.filterMap fun b => (h.get? b).map fun o => (b, o)
theorem qA {fp : List Addr} {h : Heap} {b : Addr} {o : Obj} (hb : b ∈ fp) (e : h.get? b = some o) : (b, o) ∈ zdq fp h := List.mem_filterMap.mpr ⟨b, hb, by rw [e]; rfl⟩
theorem zqi {fp : List Addr} {h : Heap} {p : Addr × Obj} (hp : p ∈ zdq fp h) : p.1 ∈ fp /\ h.get? p.1 = some p.2 := by
 obtain ⟨b, hb, e⟩ := List.mem_filterMap.mp hp;cases q : h.get? b with
 | none => rw [q] at e; cases e
 | some o =>
  rw [q] at e;have e' : (b, o) = p := Option.some.inj e;subst e';exact ⟨hb, q⟩
theorem Inv.pinned {pins : List (Addr × Obj)} {σ : St} {H : Hp} {s : Shared} {fp : List Addr} (I : Inv X pins σ H s) (hf : ∀ b ∈ fp, zfu X pins H b) (ho : ∀ b ∈ fp, ∃ o, s.heap.get? b = some o /\ ∀ v, o.data ≠ .cell v) : Inv X (pins ++ zdq fp s.heap) σ H s :=
 I.pins_of fun p hp => (Qr.mp hp).elim (fun z => I.pin p (Qp _ z)) fun z => by
  obtain ⟨hb, e⟩ := zqi z;obtain ⟨f0, f1, f2, _⟩ := hf p.1 hb;obtain ⟨o, e', d⟩ := ho p.1 hb;rw [e] at e'; cases e';exact ⟨e, f0, f1, f2, d⟩
theorem Inv.unpinned {pins pl : List (Addr × Obj)} {σ : St} {H : Hp} {s : Shared} (I : Inv X (pins ++ pl) σ H s) : Inv X pins σ H s := I.pins_of fun p hp => I.pin p (Qp _ (Qn _ hp))
theorem wG {iter : Expr} {body : List Stmt} {wi : TI} {g : TG} {tb : TS} {pos : Pos} (hp : PassesOwn (model X.prog X.w) X.A X.env X.xe) (hc : X.calm = true) (hi : PI X tg iter wi) (hg : PG X tg g) (hb : PSs X body tb)
  (hs : ∀ x, foldedSetIterable iter X.env x = pure x := by intro _; rfl) : PS X (.For tg iter body [] pos) (zHc wi g tb) := by
 intro pins s σ H D I h;refine wpAny_For (thn (hi pins s σ H _ I h) fun v s1 h1 => thn h1 fun itv s2 h2 => ?_) hs;obtain ⟨it, fp, tn, J, H2, e, I2, T, st2, f2, W, ⟨m0, w0⟩, turn⟩ := h2;subst e;have stat : ∀ {H' : Hp}, (∀ b ∈ fp, H' b = none) -> ∀ b ∈ fp, zfu X pins H' b := fun hn b hb => ⟨hn b hb, (f2 b hb).2⟩;refine codeAny_forLoop_any (fun n s' => ∃ i σ' H', Inv X pins σ' H' s' /\ tn i s'.heap /\ (∀ b ∈ fp, H' b = none) /\ W i n σ' H') ?_ m0 ⟨0, σ, H2, I2, st2, fun b hb => (f2 b hb).1, w0⟩;rintro n s3 ⟨i, σ3, H3, I3, st3, fr3, w3⟩;rcases turn i n σ3 H3 w3 with ⟨stop, qn⟩ | ⟨go, N, hN, step⟩
 ·refine wpAny_passesOwn hp (thn (T.done X rfl rfl rfl hc i pins s3 σ3 H3 X.xe I3 (stat fr3) st3 stop) fun r s4 ⟨hr, I4⟩ => ?_);subst hr;exact wpAny_execs_nil ⟨σ3, H3, I4, qn⟩
 ·refine wpAny_passesOwn hp (thn (T.item X rfl rfl rfl hc i pins s3 σ3 H3 X.xe I3 (stat fr3) st3 go) fun r s4 ⟨u, hr, h4⟩ => ?_);subst hr;refine wpAny_passesOwn hp (thn h4 fun _ s5 ⟨x, H5, I5, r5, y5, st5, fr5⟩ => ?_);have I5' := I5.pinned (stat fr5) (T.obj _ _ st5);refine wpAny_passesOwn hp (thn (hg _ s5 σ3 H5 x u _ I5' r5 (step x H5 y5)) fun _ s6 ⟨σ6, H6, I6, q6⟩ => ?_);refine wpAny_passesOwn hp (thn (hb _ s6 σ6 H6 _ I6 q6) fun f s7 q7 => ?_);have again : ∀ {σ7 : St} {H7 : Hp}, Inv X (pins ++ zdq fp s5.heap) σ7 H7 s7 -> N σ7 H7 -> ∃ m, m < n /\ ∃ i σ' H', Inv X pins σ' H' s7 /\ tn i s7.heap /\ (∀ b ∈ fp, H' b = none) /\ W i m σ' H' := fun {σ7 H7} I7 n7 => by
   obtain ⟨m', hm, w7⟩ := hN σ7 H7 n7;refine ⟨m', hm, i + 1, σ7, H7, I7.unpinned, T.keep _ _ _ st5 fun b hb o e => (I7.pin (b, o) (Qp _ (Qp _ (qA hb e)))).1, fun b hb => ?_, w7⟩;obtain ⟨o, e, d⟩ := T.obj _ _ st5 b hb;exact (I7.pin (b, o) (Qp _ (Qp _ (qA hb e)))).2.1
  cases f with
  | next => obtain ⟨σ7, H7, I7, n7⟩ := q7; exact again I7 n7
  | cont => obtain ⟨σ7, H7, I7, n7⟩ := q7; exact again I7 n7
  | brk => obtain ⟨σ7, H7, I7, q7⟩ := q7; exact ⟨σ7, H7, I7.unpinned, q7⟩
  | ret v => obtain ⟨x7, σ7, H7, I7, r7, q7⟩ := q7; exact ⟨x7, σ7, H7, I7.unpinned, r7, q7⟩
end
theorem zlb {K : PySem.W.Frag} {a : Addr} {xs : List V} {g : TG} {tb : TS} {D : zfv} {σ : St} {H : Hp} (Pv : Nat -> St -> Hp -> Prop) (h0 : Pv 0 σ H) (hl : ∀ i σ H, i <= xs.length -> Pv i σ H -> SqL K H a xs)
  (hs : ∀ i x σ H, xs[i]? = some x -> Pv i σ H -> g x σ H fun σ2 H2 => tb { D with nx := Pv (i + 1), ct := Pv (i + 1), bk := D.nx } σ2 H2) (hd : ∀ σ H, Pv xs.length σ H -> D.nx σ H) :
  ∃ W : Nat -> Nat -> St -> Hp -> Prop, (∃ m, W 0 m σ H) /\ ∀ i m σ H, W i m σ H ->
   ((Itl K a).stop i H /\ D.nx σ H) \/ ((Itl K a).go i H /\ ∃ N : St -> Hp -> Prop, (∀ σ' H', N σ' H' -> ∃ m', m' < m /\ W (i + 1) m' σ' H') /\ ∀ x H', (Itl K a).yld i H x H' -> g x σ H' fun σ2 H2 => tb { D with nx := N, ct := N, bk := D.nx } σ2 H2) := by
 refine ⟨fun i m σ H => m = xs.length - i /\ i <= xs.length /\ Pv i σ H, ⟨xs.length, by simp, Jj _, h0⟩, ?_⟩;rintro i m σ H ⟨rfl, hi, p⟩;have q := hl i σ H hi p;by_cases hlt : i < xs.length
 ·refine .inr ⟨⟨xs, xs[i], q, by simp [hlt]⟩, Pv (i + 1), fun σ' H' p' => ⟨xs.length - (i + 1), by lia, rfl, hlt, p'⟩, fun x H' y => ?_⟩;obtain ⟨e, y⟩ := y;subst e;exact hs i x σ _ (y xs q) p
 ·have e : i = xs.length := by lia
  subst e;exact .inl ⟨⟨xs, q, Qw _⟩, hd σ H p⟩
theorem zzb {K : PySem.W.Frag} {a : Addr} {xs : List V} {g : TG} {tb : TS} {D : zfv} {σ : St} {H : Hp} (Pv : Nat -> St -> Hp -> Prop) (h0 : Pv 0 σ H) (hl : ∀ i σ H, i <= xs.length -> Pv i σ H -> SqT K H a xs)
  (hs : ∀ i x σ H, xs[i]? = some x -> Pv i σ H -> g x σ H fun σ2 H2 => tb { D with nx := Pv (i + 1), ct := Pv (i + 1), bk := D.nx } σ2 H2) (hd : ∀ σ H, Pv xs.length σ H -> D.nx σ H) :
  ∃ W : Nat -> Nat -> St -> Hp -> Prop, (∃ m, W 0 m σ H) /\ ∀ i m σ H, W i m σ H ->
   ((Itt K a).stop i H /\ D.nx σ H) \/ ((Itt K a).go i H /\ ∃ N : St -> Hp -> Prop, (∀ σ' H', N σ' H' -> ∃ m', m' < m /\ W (i + 1) m' σ' H') /\ ∀ x H', (Itt K a).yld i H x H' -> g x σ H' fun σ2 H2 => tb { D with nx := N, ct := N, bk := D.nx } σ2 H2) := by
 refine ⟨fun i m σ H => m = xs.length - i /\ i <= xs.length /\ Pv i σ H, ⟨xs.length, by simp, Jj _, h0⟩, ?_⟩;rintro i m σ H ⟨rfl, hi, p⟩;have q := hl i σ H hi p;by_cases hlt : i < xs.length
 ·refine .inr ⟨⟨xs, xs[i], q, by simp [hlt]⟩, Pv (i + 1), fun σ' H' p' => ⟨xs.length - (i + 1), by lia, rfl, hlt, p'⟩, fun x H' y => ?_⟩;obtain ⟨e, y⟩ := y;subst e;exact hs i x σ _ (y xs q) p
 ·have e : i = xs.length := by lia
  subst e;exact .inl ⟨⟨xs, q, Qw _⟩, hd σ H p⟩
theorem zah {lo : Int} {n : Nat} {g : TG} {tb : TS} {D : zfv} {σ : St} {H : Hp} (Pv : Nat -> St -> Hp -> Prop) (h0 : Pv 0 σ H)
  (hs : ∀ i σ H, i < n -> Pv i σ H -> g (.int (lo + i)) σ H fun σ2 H2 => tb { D with nx := Pv (i + 1), ct := Pv (i + 1), bk := D.nx } σ2 H2) (hd : ∀ σ H, Pv n σ H -> D.nx σ H) :
  ∃ W : Nat -> Nat -> St -> Hp -> Prop, (∃ m, W 0 m σ H) /\ ∀ i m σ H, W i m σ H ->
   ((Itr lo n).stop i H /\ D.nx σ H) \/ ((Itr lo n).go i H /\ ∃ N : St -> Hp -> Prop, (∀ σ' H', N σ' H' -> ∃ m', m' < m /\ W (i + 1) m' σ' H') /\ ∀ x H', (Itr lo n).yld i H x H' -> g x σ H' fun σ2 H2 => tb { D with nx := N, ct := N, bk := D.nx } σ2 H2) := by
 refine ⟨fun i m σ H => m = n - i /\ i <= n /\ Pv i σ H, ⟨n, by simp, Jj _, h0⟩, ?_⟩;rintro i m σ H ⟨rfl, hi, p⟩;by_cases hlt : i < n
 ·refine .inr ⟨hlt, Pv (i + 1), fun σ' H' p' => ⟨n - (i + 1), by lia, rfl, hlt, p'⟩, fun x H' y => ?_⟩;obtain ⟨e, y⟩ := y;subst e y;exact hs i σ _ hlt p
 ·have e : i = n := by lia
  subst e;exact .inl ⟨Qw _, hd σ H p⟩
abbrev R2 := V -> V -> Hp -> VK -> Prop
def OpR (X : Cx) (f : Value -> Value -> Sem Value) (r : R2) : Prop :=
 ∀ (pins : List (Addr × Obj)) (s : Shared) (σ : St) (H : Hp) (x y : V) (v u : Value) (Q : VK), Inv X pins σ H s -> RelV x v -> RelV y u -> r x y H Q ->
  wpAny (model X.prog X.w) X.A (f v u) (EP X pins σ Q) X.xe s
def UnR (X : Cx) (f : Value -> Sem Value) (r : V -> Hp -> VK -> Prop) : Prop :=
 ∀ (pins : List (Addr × Obj)) (s : Shared) (σ : St) (H : Hp) (x : V) (v : Value) (Q : VK), Inv X pins σ H s -> RelV x v -> r x H Q ->
  wpAny (model X.prog X.w) X.A (f v) (EP X pins σ Q) X.xe s
def xE (X : Cx) (f : Value) (r : List V -> Hp -> VK -> Prop) : Prop :=
 ∀ (pins : List (Addr × Obj)) (s : Shared) (σ : St) (H : Hp) (xs : List V) (us : List Value) (Q : VK), Inv X pins σ H s -> Vals xs us -> r xs H Q ->
  wpAny (model X.prog X.w) X.A (call f us) (EP X pins σ Q) X.xe s
def zIj (X : Cx) (r : V -> Hp -> (Bool -> Hp -> Prop) -> Prop) : Prop :=
 ∀ (pins : List (Addr × Obj)) (s : Shared) (σ : St) (H : Hp) (x : V) (v : Value) (Q : Bool -> Hp -> Prop), Inv X pins σ H s -> RelV x v -> r x H Q ->
  wpAny (model X.prog X.w) X.A (truthy v) (TP X pins σ Q) X.xe s
def tOp (r : R2) (ta tb : TE) : TE := fun σ H Q => ta σ H fun x H1 => tb σ H1 fun y H2 => r x y H2 Q
def tUn (r : V -> Hp -> VK -> Prop) (ta : TE) : TE := fun σ H Q => ta σ H fun x H1 => r x H1 Q
def rI (C : Int -> Int -> Prop) (g : Int -> Int -> V) : R2 := fun x y H Q => ∃ i j, x = .int i /\ y = .int j /\ C i j /\ Q (g i j) H
def rI0 (g : Int -> Int -> V) : R2 := fun x y H Q => ∃ i j, x = .int i /\ y = .int j /\ Q (g i j) H
def rU (g : Int -> V) : V -> Hp -> VK -> Prop := fun x H Q => ∃ i, x = .int i /\ Q (g i) H
section
variable {X : Cx} {a b c : Expr} {ta tb tc : TE} {pos : Pos}
theorem zEq (ha : PE X a ta) (hb : PE X b tb) {pins : List (Addr × Obj)} {s : Shared} {σ : St} {H : Hp} {R : V -> V -> Hp -> Prop} (I : Inv X pins σ H s)
  (h : ta σ H fun x H1 => tb σ H1 fun y H2 => R x y H2) {Q : Value -> Shared -> Prop} {f : Value -> Value -> Sem Value}
  (hf : ∀ v u s2 x y H2, Inv X pins σ H2 s2 -> RelV x v -> RelV y u -> R x y H2 -> wpAny (model X.prog X.w) X.A (f v u) Q X.xe s2) :
  wpAny (model X.prog X.w) X.A (eval a X.env) (fun v s₁ => wpAny (model X.prog X.w) X.A (eval b X.env) (fun u s₂ => wpAny (model X.prog X.w) X.A (f v u) Q X.xe s₂) X.xe s₁) X.xe s := by
 refine thn (ha pins s σ H _ I h) fun v s1 ⟨x, H1, I1, r1, q1⟩ => ?_;refine thn (hb pins s1 σ H1 _ I1 q1) fun u s2 ⟨y, H2, I2, r2, q2⟩ => ?_;exact hf v u s2 x y H2 I2 r1 r2 q2
theorem zQ {op : Operator} {r : R2} (ho : OpR X (binaryOp op) r) (ha : PE X a ta) (hb : PE X b tb) : PE X (.BinOp a op b pos) (tOp r ta tb) := by
 intro pins s σ H Q I h;exact wpAny_BinOp (zEq ha hb I h fun v u s2 x y H2 I2 rx ry q => ho pins s2 σ H2 x y v u Q I2 rx ry q)
theorem zec {op : UnaryOp} {r : V -> Hp -> VK -> Prop} (ho : UnR X (unaryOp op) r) (ha : PE X a ta) : PE X (.UnaryOp op a pos) (tUn r ta) := by
 intro pins s σ H Q I h;exact UnaryOp_ (thn (ha pins s σ H _ I h) fun v s1 ⟨x, H1, I1, r1, q1⟩ => ho pins s1 σ H1 x v Q I1 r1 q1)
theorem opI {f : Value -> Value -> Sem Value} {C : Int -> Int -> Prop} {g : Int -> Int -> Int}
  (rule : ∀ (i j : Int) (t u : Tok) (s : Shared) (Q : Value -> Shared -> Prop) (E : Value -> Shared -> Prop), C i j -> Q (.int (g i j) s.toks) { s with toks := s.toks + 1 } -> wpAny (model X.prog X.w) X.A (f (.int i t) (.int j u)) Q E s) :
  OpR X f (rI C fun i j => .int (g i j)) := by
 intro pins s σ H x y v u Q I rx ry h;obtain ⟨i, j, rfl, rfl, hc, q⟩ := h;obtain ⟨t, rfl⟩ := rx;obtain ⟨t', rfl⟩ := ry;exact rule i j t t' s _ _ hc ⟨.int (g i j), H, I.tok _, ⟨_, rfl⟩, q⟩
theorem zAt {f : Value -> Value -> Sem Value} {g : Int -> Int -> Int}
  (rule : ∀ (i j : Int) (t u : Tok) (s : Shared) (Q : Value -> Shared -> Prop) (E : Value -> Shared -> Prop), Q (.int (g i j) s.toks) { s with toks := s.toks + 1 } -> wpAny (model X.prog X.w) X.A (f (.int i t) (.int j u)) Q E s) :
  OpR X f (rI0 fun i j => .int (g i j)) := by
 intro pins s σ H x y v u Q I rx ry h;obtain ⟨i, j, rfl, rfl, q⟩ := h;obtain ⟨t, rfl⟩ := rx;obtain ⟨t', rfl⟩ := ry;exact rule i j t t' s _ _ ⟨.int (g i j), H, I.tok _, ⟨_, rfl⟩, q⟩
theorem zGm {f : Value -> Value -> Sem Value} {g : Int -> Int -> Bool}
  (rule : ∀ (i j : Int) (t u : Tok) (s : Shared) (Q : Value -> Shared -> Prop) (E : Value -> Shared -> Prop), Q (.bool (g i j)) s -> wpAny (model X.prog X.w) X.A (f (.int i t) (.int j u)) Q E s) :
  OpR X f (rI0 fun i j => .bl (g i j)) := by
 intro pins s σ H x y v u Q I rx ry h;obtain ⟨i, j, rfl, rfl, q⟩ := h;obtain ⟨t, rfl⟩ := rx;obtain ⟨t', rfl⟩ := ry;exact rule i j t t' s _ _ ⟨.bl (g i j), H, I, rfl, q⟩
def zIn (i j : Int) : Prop := 0 < j /\ j < 1073741824
def zIm (i j : Int) : Prop := 0 <= j /\ j <= 1000000 /\ i.natAbs < 2 ^ 64
def CMul (i j : Int) : Prop := (-(2 ^ 64) < i /\ i < 2 ^ 64) \/ (-(2 ^ 64) < j /\ j < 2 ^ 64)
theorem CMul.ok {i j : Int} (h : CMul i j) : IntMulOk i j := by
 rcases h with ⟨h1, h2⟩ | ⟨h1, h2⟩
 ·exact .of_left (intBits_le_64 h1 h2)
 ·exact .of_right (intBits_le_64 h1 h2)
theorem zlo (k : Nat) : (0 : Int) <= 2 ^ k := by
 rw [two_pow_cast];exact Int.natCast_nonneg _
theorem xN : OpR X (binaryOp .Add) (rI0 fun i j => .int (i + j)) := zAt fun _ _ _ _ _ _ _ q => add_int q
theorem zbd : OpR X (binaryOp .Sub) (rI0 fun i j => .int (i - j)) := zAt fun _ _ _ _ _ _ _ q => sub_int q
theorem zdr : OpR X (binaryOp .Mult) (rI CMul fun i j => .int (i * j)) := opI fun _ _ _ _ _ _ _ hc q => mul_int q hc.ok
theorem x0 : OpR X (binaryOp .FloorDiv) (rI zIn fun i j => .int (i / j)) := opI fun i j _ _ _ _ _ hc q => by
 have h1 : (0 : Int) < j := hc.1;have h2 : j < 1073741824 := hc.2;exact floordiv_int (by lia) (by rw [Int.fdiv_eq_ediv_of_nonneg i (by lia)]; exact q) (.inl (PyProof.noPylong_small (by lia)))
theorem wJ : OpR X (binaryOp .Mod) (rI (fun _ j => 0 < j) fun i j => .int (i % j)) := opI fun i j _ _ _ _ _ hc q => by
 have h1 : (0 : Int) < j := hc;exact mod_int' (by lia) (by rw [Int.fmod_eq_emod_of_nonneg i (by lia)]; exact q)
theorem zCy : OpR X (binaryOp .LShift) (rI zIm fun i j => .int (i * 2 ^ j.toNat)) := opI fun _ _ _ _ _ _ _ hc q => lshift_int_small hc.1 hc.2.1 hc.2.2 q
theorem znd : OpR X (binaryOp .RShift) (rI (fun _ j => 0 <= j) fun i j => .int (i / 2 ^ j.toNat)) := opI fun i j _ _ _ _ _ hc q =>
 rshift_int hc (by rw [Int.fdiv_eq_ediv_of_nonneg i (zlo _)]; exact q)
theorem zne : OpR X (binaryOp .BitAnd) (rI0 fun i j => .int (Builtin.bitAnd i j)) := zAt fun _ _ _ _ _ _ _ q => and_int q
theorem zig : OpR X (binaryOp .BitXor) (rI0 fun i j => .int (Builtin.bitXor i j)) := zAt fun _ _ _ _ _ _ _ q => xor_int q
theorem unI {f : Value -> Sem Value} {g : Int -> Int}
  (rule : ∀ (i : Int) (t : Tok) (s : Shared) (Q : Value -> Shared -> Prop) (E : Value -> Shared -> Prop), Q (.int (g i) s.toks) { s with toks := s.toks + 1 } -> wpAny (model X.prog X.w) X.A (f (.int i t)) Q E s) :
  UnR X f (rU fun i => .int (g i)) := by
 intro pins s σ H x v Q I rx h;obtain ⟨i, rfl, q⟩ := h;obtain ⟨t, rfl⟩ := rx;exact rule i t s _ _ ⟨.int (g i), H, I.tok _, ⟨_, rfl⟩, q⟩
theorem kG : UnR X (unaryOp .USub) (rU fun i => .int (-i)) := unI fun _ _ _ _ _ q => neg_int q
end
def zGj : V -> V -> Bool
 | .non, .non => true | .non, .int _ => true | .int _, .non => true | .non, .bl _ => true | .bl _, .non => true | .non, .str _ => true | .str _, .non => true
 | .int _, .int _ => true | .bl _, .bl _ => true | .str _, .str _ => true | .byt _, .byt _ => true
 | .int _, .str _ => true | .str _, .int _ => true | .bl _, .str _ => true | .str _, .bl _ => true
 | _, _ => false
def rEq : R2 := fun x y H Q => zGj x y = true /\ Q (.bl (decide (x = y))) H
def rNe : R2 := fun x y H Q => zGj x y = true /\ Q (.bl (!decide (x = y))) H
theorem dec_int {i j : Int} : decide (V.int i = V.int j) = (i == j) := by
 rw [Jp];simp
theorem zwm {i j : Bool} : decide (V.bl i = V.bl j) = (i == j) := by
 rw [Jp];simp
theorem zpa {i j : Str} : decide (V.str i = V.str j) = (i == j) := by
 rw [Jp];simp
theorem zpb {i j : Array UInt8} : decide (V.byt i = V.byt j) = (i.toList == j.toList) := by
 rw [Jp];cases i
 cases j
 simp
section
variable {X : Cx} {a b c : Expr} {ta tb tc : TE} {pos : Pos}
theorem yU {pins : List (Addr × Obj)} {σ : St} {H : Hp} {s : Shared} {Q : VK} {k k' : Bool} (I : Inv X pins σ H s) (q : Q (.bl k) H) (e : k = k') : EP X pins σ Q (.bool k') s := by
 subst e;exact ⟨.bl k, H, I, rfl, q⟩
theorem qL : OpR X (compareOp .Eq) rEq := by
 intro pins s σ H x y v u Q I rx ry h;obtain ⟨hs, q⟩ := h;cases x with
 | non =>
  cases rx
  cases y with
  | non => cases ry; exact PySem.EqNone.eq_none_none (yU I q (by simp))
  | bl j => cases ry; exact PySem.EqNone.eq_none_bool (yU I q (by simp))
  | int j => obtain ⟨t', rfl⟩ := ry; exact PySem.EqNone.eq_none_int (yU I q (by simp))
  | str j => obtain ⟨t', rfl⟩ := ry; exact PySem.EqNone.eq_none_str (yU I q (by simp))
  | _ => exact absurd (show false = true from hs) Q1
 | bl i =>
  cases rx
  cases y with
  | non => cases ry; exact PySem.EqNone.eq_bool_none (yU I q (by simp))
  | bl j => cases ry; exact eq_bool (yU I q zwm)
  | str j => obtain ⟨t', rfl⟩ := ry; exact PySem.EqMixed.eq_bool_str (yU I q (by simp))
  | _ => exact absurd (show false = true from hs) Q1
 | int i =>
  obtain ⟨t, rfl⟩ := rx;cases y with
  | non => cases ry; exact PySem.EqNone.eq_int_none (yU I q (by simp))
  | int j => obtain ⟨t', rfl⟩ := ry; exact eq_int (yU I q dec_int)
  | str j => obtain ⟨t', rfl⟩ := ry; exact PySem.EqMixed.eq_int_str (yU I q (by simp))
  | _ => exact absurd (show false = true from hs) Q1
 | str i =>
  obtain ⟨t, rfl⟩ := rx;cases y with
  | non => cases ry; exact PySem.EqNone.eq_str_none (yU I q (by simp))
  | bl j => cases ry; exact PySem.EqMixed.eq_str_bool (yU I q (by simp))
  | int j => obtain ⟨t', rfl⟩ := ry; exact PySem.EqMixed.eq_str_int (yU I q (by simp))
  | str j => obtain ⟨t', rfl⟩ := ry; exact eq_str (yU I q zpa)
  | _ => exact absurd (show false = true from hs) Q1
 | byt i =>
  obtain ⟨t, rfl⟩ := rx;cases y with
  | byt j => obtain ⟨t', rfl⟩ := ry; exact PySem.W.eq_bytes (yU I q zpb)
  | _ => exact absurd (show false = true from hs) Q1
 | _ => cases y <;> exact absurd (show false = true from hs) Q1
theorem zih : OpR X (compareOp .NotEq) rNe := by
 intro pins s σ H x y v u Q I rx ry h;obtain ⟨hs, q⟩ := h;cases x with
 | non =>
  cases rx
  cases y with
  | non => cases ry; exact PySem.EqNone.ne_none_none (yU I q (by simp))
  | bl j => cases ry; exact PySem.EqNone.ne_none_bool (yU I q (by simp))
  | int j => obtain ⟨t', rfl⟩ := ry; exact PySem.EqNone.ne_none_int (yU I q (by simp))
  | str j => obtain ⟨t', rfl⟩ := ry; exact PySem.EqNone.ne_none_str (yU I q (by simp))
  | _ => exact absurd (show false = true from hs) Q1
 | bl i =>
  cases rx
  cases y with
  | non => cases ry; exact PySem.EqNone.ne_bool_none (yU I q (by simp))
  | bl j => cases ry; exact ne_bool (yU I q (congrArg not zwm))
  | str j => obtain ⟨t', rfl⟩ := ry; exact PySem.EqMixed.ne_bool_str (yU I q (by simp))
  | _ => exact absurd (show false = true from hs) Q1
 | int i =>
  obtain ⟨t, rfl⟩ := rx;cases y with
  | non => cases ry; exact PySem.EqNone.ne_int_none (yU I q (by simp))
  | int j => obtain ⟨t', rfl⟩ := ry; exact ne_int (yU I q (congrArg not dec_int))
  | str j => obtain ⟨t', rfl⟩ := ry; exact PySem.EqMixed.ne_int_str (yU I q (by simp))
  | _ => exact absurd (show false = true from hs) Q1
 | str i =>
  obtain ⟨t, rfl⟩ := rx;cases y with
  | non => cases ry; exact PySem.EqNone.ne_str_none (yU I q (by simp))
  | bl j => cases ry; exact PySem.EqMixed.ne_str_bool (yU I q (by simp))
  | int j => obtain ⟨t', rfl⟩ := ry; exact PySem.EqMixed.ne_str_int (yU I q (by simp))
  | str j => obtain ⟨t', rfl⟩ := ry; exact ne_str (yU I q (congrArg not zpa))
  | _ => exact absurd (show false = true from hs) Q1
 | byt i =>
  obtain ⟨t, rfl⟩ := rx;cases y with
  | byt j => obtain ⟨t', rfl⟩ := ry; exact PySem.W.ne_bytes (yU I q (congrArg not zpb))
  | _ => exact absurd (show false = true from hs) Q1
 | _ => cases y <;> exact absurd (show false = true from hs) Q1
theorem zAs : OpR X (compareOp .Lt) (rI0 fun i j => .bl (decide (i < j))) := zGm fun _ _ _ _ _ _ _ q => lt_int q
theorem zFl : OpR X (compareOp .LtE) (rI0 fun i j => .bl (decide (i <= j))) := zGm fun _ _ _ _ _ _ _ q => le_int q
theorem zDb : OpR X (compareOp .Is) (fun x y H Q => y = .non /\ Q (.bl (decide (x = .non))) H) := by
 intro pins s σ H x y v u Q I rx ry h;obtain ⟨rfl, q⟩ := h;cases ry
 refine is_none_gen (yU I q ?_);cases x <;> first
  | (cases rx; rfl)
  | (obtain ⟨t, rfl⟩ := rx; rfl)
theorem OpR.or {f : Value -> Value -> Sem Value} {r r' : R2} (h : OpR X f r) (h' : OpR X f r') : OpR X f (fun x y H Q => r x y H Q \/ r' x y H Q) := by
 intro pins s σ H x y v u Q I rx ry q;rcases q with q | q
 ·exact h pins s σ H x y v u Q I rx ry q
 ·exact h' pins s σ H x y v u Q I rx ry q
theorem yQ (b : Expr) {op : CmpOp} (h : op ≠ .In := by decide) (h2 : op ≠ .NotIn := by decide) : behindInMarks op b = false := by
 have e1 : (op == CmpOp.In) = false := by cases op <;> first | rfl | exact absurd rfl h
 have e2 : (op == CmpOp.NotIn) = false := by cases op <;> first | rfl | exact absurd rfl h2
 cases b <;> simp [behindInMarks, e1, e2]
theorem qF {op : CmpOp} {r : R2} (ho : OpR X (compareOp op) r) (ha : PE X a ta) (hb : PE X b tb) (hm : behindInMarks op b = false) : PE X (.Compare a [op] [b] pos) (tOp r ta tb) := by
 intro pins s σ H Q I h;exact wpAny_Compare1 (zEq ha hb I h fun v u s2 x y H2 I2 rx ry q => ho pins s2 σ H2 x y v u Q I2 rx ry q) hm
def zEy (t : TE) : TT := fun σ H Q => t σ H fun x H' => ∃ k, x = .bl k /\ Q k H'
theorem yF {op : CmpOp} {r : R2} (ho : OpR X (compareOp op) r) (ha : PE X a ta) (hb : PE X b tb) (hm : behindInMarks op b = false) : PT X (.Compare a [op] [b] pos) (zEy (tOp r ta tb)) := by
 intro pins s σ H Q I h;refine wpAny_isTrue_Compare1 (thn (ha pins s σ H _ I h) fun v s1 ⟨x, H1, I1, r1, q1⟩ => thn (hb pins s1 σ H1 _ I1 q1) fun u s2 ⟨y, H2, I2, r2, q2⟩ =>
  thn (ho pins s2 σ H2 x y v u _ I2 r1 r2 q2) fun c s3 ⟨z, H3, I3, r3, k, e, q3⟩ => ?_) hm
 subst e;cases r3
 exact wpAny_truthy_bool ⟨H3, I3, q3⟩
def zGu (K : PySem.W.Frag) (x : V) (H : Hp) (k : Bool) : Prop :=
 match x with
 | .non => k = false
 | .bl b => k = b
 | .int i => k = (i != 0)
 | .str y => y.length <= sizeLine /\ k = ((y.length : Int) != 0)
 | .byt y => y.size <= sizeLine /\ k = ((y.size : Int) != 0)
 | .ref p => (∃ xs, SqL K H p xs /\ k = !xs.isEmpty) \/ (∃ xs, SqT K H p xs /\ k = !xs.isEmpty) \/ ∃ kvs, H p = some (.dK kvs) /\ k = !kvs.isEmpty
 | _ => False
theorem zmf {κ : Type} {kvs : List (κ × V)} {vs : List (κ × Value)} (r : KV kvs vs) : (!vs.isEmpty) = !kvs.isEmpty := by
 cases r <;> rfl
theorem zci {xs : List V} {its : List Value} (r : Vals xs its) : (!its.toArray.isEmpty) = !xs.isEmpty := by
 cases r <;> simp
theorem zds : (sizeLine : Nat) < 2 ^ 63 := by rw [sizeLine_eq]; decide
theorem zBl : zIj X (fun x H Q => ∃ k, zGu X.K x H k /\ Q k H) := by
 intro pins s σ H x v Q I rx h;obtain ⟨k, e, q⟩ := h;have hl := zds;have hs : sizeLine = 16777216 := sizeLine_eq;cases x with
 | non =>
  cases rx
  have e' : k = false := e;subst e';exact truthy_none ⟨H, I, q⟩
 | bl b =>
  cases rx
  have e' : k = b := e;subst e';exact wpAny_truthy_bool ⟨H, I, q⟩
 | int i =>
  obtain ⟨t, rfl⟩ := rx;have e' : k = (i != 0) := e;subst e';exact PySem.P.truthy_int ⟨H, I, q⟩
 | str y =>
  obtain ⟨t, rfl⟩ := rx;obtain ⟨hy, e'⟩ : y.length <= sizeLine /\ k = ((y.length : Int) != 0) := e;subst e';exact PySem.P.truthy_str (by lia) ⟨H, I.tok _, q⟩
 | byt y =>
  obtain ⟨t, rfl⟩ := rx;obtain ⟨hy, e'⟩ : y.size <= sizeLine /\ k = ((y.size : Int) != 0) := e;subst e';exact PySem.W.truthy_bytes (by lia) ⟨H, I.tok _, q⟩
 | ref p =>
  cases rx
  have e' : (∃ xs, SqL X.K H p xs /\ k = !xs.isEmpty) \/ (∃ xs, SqT X.K H p xs /\ k = !xs.isEmpty) \/ ∃ kvs, H p = some (.dK kvs) /\ k = !kvs.isEmpty := e;rcases e' with ⟨xs, hx, e'⟩ | ⟨xs, hx, e'⟩ | ⟨kvs, hx, e'⟩
  ·subst e';obtain ⟨its, r, pl, hz⟩ := I.list hx;have hlen := r.length;exact wpAny_truthy_list pl.isList (by simp only [Qh]; lia) ⟨H, I.tok _, by rw [zci r]; exact q⟩
  ·subst e';obtain ⟨its, r, pl, hz⟩ := I.tuple hx;have hlen := r.length;exact truthy_tuple pl (by simp only [Qh]; lia) ⟨H, I.tok _, by rw [zci r]; exact q⟩
  ·subst e';obtain ⟨hz, hS, vs, r, m⟩ : kvs.length <= sizeLine /\ (p == sysModules) = false /\ ∃ vs, KV kvs vs /\ s.heap.DictOf (y6 X.prog X.w) p vs := I.hok p _ hx;have hlen : kvs.length = vs.length := Paired.length r;exact wpAny_truthy_dict hS m (by lia) ⟨H, I.tok _, by rw [zmf r]; exact q⟩
 | _ => exact (show False from e).elim
theorem kW (ha : PE X a ta) (he : ∀ whole, isTrue a X.env whole = (do let v <- whole; standAt a.pos; holding [v] (truthy v))) :
  PT X a (fun σ H Q => ta σ H fun x H' => ∃ k, zGu X.K x H' k /\ Q k H') := by
 intro pins s σ H Q I h;exact isTrue_plain (thn (ha pins s σ H _ I h) fun v s1 ⟨x, H1, I1, r1, q1⟩ => zBl pins s1 σ H1 x v Q I1 r1 q1) (he _)
theorem zro {x : V} {us : List Value} (r : Vals [x] us) : ∃ u, us = [u] /\ RelV x u := by
 cases r with
 | cons r1 r2 => cases r2; exact ⟨_, rfl, r1⟩
theorem zAf {x y : V} {us : List Value} (r : Vals [x, y] us) : ∃ u w', us = [u, w'] /\ RelV x u /\ RelV y w' := by
 cases r with
 | cons r1 r2 =>
  cases r2 with
  | cons r3 r4 => cases r4; exact ⟨_, _, rfl, r1, r3⟩
theorem zrg (hc : X.calm = true) : xE X (.builtin "max") (fun xs H Q => ∃ i j, xs = [.int i, .int j] /\ Q (.int (if j > i then j else i)) H) := by
 intro pins s σ H xs us Q I r h;obtain ⟨i, j, rfl, q⟩ := h;obtain ⟨u, w', rfl, ⟨t, rfl⟩, ⟨t', rfl⟩⟩ := zAf r;refine max_two_ints (I.ok.hd hc) fun h' tk k => ⟨_, H, I.kept k, ?_, q⟩;by_cases hj : j > i
 ·rw [if_pos hj, if_pos hj]; exact ⟨_, rfl⟩
 ·rw [if_neg hj, if_neg hj]; exact ⟨_, rfl⟩
theorem zrf (hc : X.calm = true) : xE X (.builtin "min") (fun xs H Q => ∃ i j, xs = [.int i, .int j] /\ Q (.int (if j < i then j else i)) H) := by
 intro pins s σ H xs us Q I r h;obtain ⟨i, j, rfl, q⟩ := h;obtain ⟨u, w', rfl, ⟨t, rfl⟩, ⟨t', rfl⟩⟩ := zAf r;refine min_two_ints (I.ok.hd hc) fun h' tk k => ⟨_, H, I.kept k, ?_, q⟩;by_cases hj : j < i
 ·rw [if_pos hj, if_pos hj]; exact ⟨_, rfl⟩
 ·rw [if_neg hj, if_neg hj]; exact ⟨_, rfl⟩
end
structure ObjM (h : Heap) (x dx C : Addr) (mA : Str -> Option Value) : Prop where
 obj : h.get? x = some (PySem.W.instObj C dx)
 ns : h.Ns1 dx mA
 ne : dx ≠ x
theorem zql {h : Heap} {dx : Addr} {mA : Str -> Option Value} (n : h.Ns1 dx mA) : ∃ od, h.get? dx = some od /\ ∀ name, PySem.W.lookIn name od = some (mA name) := by
 obtain ⟨o, es, ep, ho, hd, hk, _, hm⟩ := n;refine ⟨o, ho, fun name => ?_⟩;have e := hm name;unfold nsFind findBy at e;rw [<- Array.find?_toList] at e;unfold PySem.W.lookIn;rw [hd];dsimp only;split
 ·rename_i y q
  rw [q] at e;exact congrArg some e
 ·rename_i q
  rw [q] at e;have a : es.toList.any (·.refKey) = false := by
   rw [List.any_eq_false];intro y hy;obtain ⟨z, t, hkey⟩ := hk y (Array.mem_toList_iff.mp hy);simp [DictEntry.refKey, hkey]
  have a' : ¬ es.toList.any (·.refKey) = true := by rw [a]; exact Q1
  rw [if_neg a'];exact congrArg some e
theorem ObjM.look {h : Heap} {x dx C : Addr} {mA : Str -> Option Value} (I : ObjM h x dx C mA) : ∃ od, PySem.W.InstAt h x (PySem.W.instObj C dx) C (some od) /\ ∀ name, PySem.W.lookIn name od = some (mA name) :=
 let ⟨od, ho, hl⟩ := zql I.ns
 ⟨od, ⟨I.obj, rfl, rfl, ho⟩, hl⟩
section
variable {prog : Program} {w : World} {A : Around} {E : Value -> Shared -> Prop} {s : Shared} {K : PySem.W.Frag} {x dx C f : Addr} {mA : Str -> Option Value} {name : Str} {v : Value}
end
theorem RelO.some_of {v : V} {o : Option Value} (r : RelO (some v) o) : ∃ u, o = some u /\ RelV v u := by
 cases o with
 | none => exact (show False from r).elim
 | some u => exact ⟨u, rfl, r⟩
section
variable {P : Program} {w : World} {H H' : Hp} {h h' : Heap} {a C dx : Addr} {fs fs' : List (Str × V)}
theorem zyu (hok : HOk P w H h) (e : H a = some (.ins C dx fs)) : ∃ mA, ObjM h a dx C mA /\ (∀ f, RelO (fs.lookup f) (mA f)) /\ PySem.Within mA (fs.map (·.1)) /\ fs.length <= 1000 /\ H dx = some (.own a) := by
 obtain ⟨d, z, ne, ob, mA, n, r, q⟩ := (show ObjOk P w H h a (.ins C dx fs) from hok a _ e);exact ⟨mA, ⟨ob, n, ne⟩, r, q, z, d⟩
end
structure Cls (K : PySem.W.Frag) (C : Addr) : Prop where
 pg : PySem.W.plainGet K C Str.empty = true
 hd : PySem.W.hasDictIn K C = true
 po : PySem.W.plainOver K C = true
 sa : PySem.W.findIn K (.ref C) "__setattr__" = some (some (.builtin "object.__setattr__"))
theorem Cls.get {K : PySem.W.Frag} {C : Addr} (c : Cls K C) (f : Str) : PySem.W.plainGet K C f = true := c.pg
section
variable {X : Cx} {pins : List (Addr × Obj)} {σ : St} {H : Hp} {s : Shared} {a C dx : Addr} {fs : List (Str × V)} {f : Str} {v : V} {A : Around} {E : Value -> Shared -> Prop}
end
section
variable {X : Cx} {o e value : Expr} {f : Str} {pos pos' tpos : Pos} {ta tv : TE}
end
section
variable {X : Cx} {pins : List (Addr × Obj)} {σ : St} {H : Hp} {s : Shared} {A : Around} {E : Value -> Shared -> Prop} {Q : Value -> Shared -> Prop} {c : Value} {b : Bool}
inductive zcq (K : PySem.W.Frag) (H : Hp) : V -> Value -> Prop where
 | non : zcq K H .non (.type "NoneType")
 | bl (x : Bool) : zcq K H (.bl x) (.type "bool")
 | int (i : Int) : zcq K H (.int i) (.type "int")
 | str (x : Str) : zcq K H (.str x) (.type "str")
 | flt (x : UInt64) : zcq K H (.flt x) (.type "float")
 | lst {a : Addr} {xs : List V} (e : H a = some (.lst xs)) : zcq K H (.ref a) (.type "list")
 | frz {a : Addr} {o : Obj} {xs : List V} (e : H a = some (.frz o (.lst xs))) : zcq K H (.ref a) (.type "list")
 | tup {a : Addr} {xs : List V} (e : H a = some (.tup xs)) : zcq K H (.ref a) (.type "tuple")
 | dK {a : Addr} {kvs : List (Key × V)} (e : H a = some (.dK kvs)) : zcq K H (.ref a) (.type "dict")
 | dT {a : Addr} {kvs : List (List Key × V)} (e : H a = some (.dT kvs)) : zcq K H (.ref a) (.type "dict")
 | ins {a C dx : Addr} {fs : List (Str × V)} (e : H a = some (.ins C dx fs)) (cl : Cls K C) (ha : PySem.W.findIn K (.ref C) "__class__" = some (some (.builtin "object.__class__")))
   (hn : PySem.W.specialIn K (.builtin "object.__class__") "__get__" = some (some (.builtin "getset_descriptor.__get__"))) (htk : PySem.W.takesIn K (.builtin "object.__class__") = some true)
   (hm : PySem.W.mroIn K C (.type "object") = some true) : zcq K H (.ref a) (.ref C)
theorem zqq {x : V} {u t : Value} (I : Inv X pins σ H s) (rx : RelV x u) (ty : zcq X.K H x t) (e : PySem.W.kitOne X.K t c = some b) (h : ∀ tk, Q (.bool b) { s with toks := tk }) :
  wpAny (model X.prog X.w) A (call (.builtin "isinstance") [u, c]) Q E s := by
 cases ty with
 | non => cases (show u = Value.none from rx); exact PySem.W.kia_one PySem.W.kitx_none I.kIn True.intro e (fun z => nomatch z) h
 | bl y => cases (show u = Value.bool y from rx); exact PySem.W.kia_one PySem.W.kitx_bool I.kIn True.intro e (fun z => nomatch z) h
 | int i => obtain ⟨t, q⟩ := (show ∃ t, u = Value.int i t from rx); cases q; exact PySem.W.kia_one PySem.W.kitx_int I.kIn True.intro e (fun z => nomatch z) h
 | str y => obtain ⟨t, q⟩ := (show ∃ t, u = Value.str y t from rx); cases q; exact PySem.W.kia_one PySem.W.kitx_str I.kIn True.intro e (fun z => nomatch z) h
 | flt y => obtain ⟨t, q⟩ := (show ∃ t, u = Value.float y t from rx); cases q; exact PySem.W.kia_one PySem.W.kitx_float I.kIn True.intro e (fun z => nomatch z) h
 | @lst a xs ea =>
  cases (show u = Value.ref a from rx)
  obtain ⟨_, _, n, _, h1⟩ := (show ObjOk X.prog X.w H s.heap a (.lst xs) from I.hok a _ ea);exact PySem.W.kia_one PySem.W.kitx_list I.kIn ⟨_, h1, rfl⟩ e (fun z => nomatch z) h
 | @frz a ob xs ea =>
  cases (show u = Value.ref a from rx)
  obtain ⟨_, _, _, n, _, h1⟩ := (show ObjOk X.prog X.w H s.heap a (.frz ob (.lst xs)) from I.hok a _ ea);exact PySem.W.kia_one PySem.W.kitx_list I.kIn ⟨_, h1, rfl⟩ e (fun z => nomatch z) h
 | @tup a xs ea =>
  cases (show u = Value.ref a from rx)
  obtain ⟨_, _, _, p⟩ := (show ObjOk X.prog X.w H s.heap a (.tup xs) from I.hok a _ ea);obtain ⟨o, h1, h2, _⟩ := p;exact PySem.W.kia_one PySem.W.kitx_tuple I.kIn ⟨o, h1, h2⟩ e (fun z => nomatch z) h
 | @dK a kvs ea =>
  cases (show u = Value.ref a from rx)
  obtain ⟨_, _, vs, _, p⟩ := (show ObjOk X.prog X.w H s.heap a (.dK kvs) from I.hok a _ ea);obtain ⟨o, es, ep, h1, h2, _⟩ := p;exact PySem.W.kia_one PySem.W.kitx_dict I.kIn ⟨o, h1, h2.1⟩ e (fun z => nomatch z) h
 | @dT a kvs ea =>
  cases (show u = Value.ref a from rx)
  obtain ⟨_, _, xs, _, o, es, ep, h1, h2, _⟩ := (show ObjOk X.prog X.w H s.heap a (.dT kvs) from I.hok a _ ea);exact PySem.W.kia_one PySem.W.kitx_dict I.kIn ⟨o, h1, h2.1⟩ e (fun z => nomatch z) h
 | @ins a C dx fs ea cl ha hn htk hm =>
  cases (show u = Value.ref a from rx)
  obtain ⟨mA, O, _⟩ := zyu I.hok ea;obtain ⟨od, J, _⟩ := O.look;exact PySem.W.kia_one (PySem.W.kitx_own (cl.get _) cl.hd ha hn htk hm) I.kIn J e (fun z => nomatch z) h
end
structure Room (k : Nat) (A : Around) : Prop where
 hd : A.handled = none
 dp : A.depth + 3 * k + 5 < recursionLimit
 un : A.units + 16 * k + 200 < cLine
theorem Room.mono {j k : Nat} {A : Around} (r : Room k A) (h : j <= k) : Room j A := ⟨r.hd, by have := r.dp; lia, by have := r.un; lia⟩
theorem Room.deeper {k : Nat} {A : Around} (r : Room (k + 1) A) (env : Env) : Room k (A.deeper env) :=
 ⟨r.hd, by have := r.dp; show A.depth + 1 + 3 * k + 5 < _; lia, by have := r.un; show A.units + 3 + 16 * k + 200 < _; lia⟩
theorem Room.depth {k : Nat} {A : Around} (r : Room k A) : A.depth < recursionLimit := by have := r.dp; lia
theorem Room.units {k : Nat} {A : Around} (r : Room k A) : A.units + 64 < cLine := by have := r.un; lia
def zsk : TA := fun _ H Q => Q [] H
def zbl (ta : TE) (tr : TA) : TA := fun σ H Q => ta σ H fun x H1 => tr σ H1 fun xs H2 => Q (x :: xs) H2
section
variable {X : Cx} {e : Expr} {es : List Expr} {te : TE} {t : TA} {pos : Pos}
theorem zB : PA X [] zsk := fun _ _ _ _ H Q I h => Calls.spliced_nil ⟨[], H, I, .nil, h⟩
theorem zA (ha : PE X e te) (hr : PA X es t) (hs : starEach (e :: es) X.env = (false, eval e X.env) :: starEach es X.env := by rfl) : PA X (e :: es) (zbl te t) := by
 intro pos pins s σ H Q I h;rw [hs];show wpAny _ _ (spliced ((false, eval e X.env) :: backTo pos (starEach es X.env))) _ _ s;refine Calls.spliced_cons (thn (ha pins s σ H _ I h) fun u s1 ⟨x, H1, I1, r1, q1⟩ => ?_);exact thn (hr pos pins s1 σ H1 _ I1 q1) fun us s2 ⟨xs, H2, I2, r2, q2⟩ => ⟨x :: xs, H2, I2, .cons r1 r2, q2⟩
def zEj (t : TA) : TE := fun σ H Q => t σ H fun xs H1 => xs.length <= sizeLine /\ ∀ p, H1 p = none -> Q (.ref p) (upd H1 p (.tup xs))
def zHa (t : TA) : TE := fun σ H Q => t σ H fun xs H1 => xs.length <= sizeLine /\ ∀ p, H1 p = none -> Q (.ref p) (upd H1 p (.lst xs))
theorem y8 {x1} (h : PA X es t) : PE X (.Tuple es x1 pos) (zEj t) := by
 intro pins s σ H Q I hq;refine wpAny_Tuple_spliced (thn (h pos pins s σ H _ I hq) fun us s1 ⟨xs, H1, I1, r, z, q⟩ => ⟨by rw [<- r.length]; exact z, ?_⟩);have hf : H1 s1.heap.objs.size = none := I1.hok.fresh (Qw _);refine ⟨.ref s1.heap.objs.size, upd H1 s1.heap.objs.size (.tup xs), I1.laid (t' := s1.toks) (fun b u e => Qz _ e) (Qw _) ?_, rfl, q _ hf⟩;exact ⟨z, us, r, ⟨_, Qb _ rfl, rfl, _, rfl⟩⟩
theorem xM (h : PA X es t) : PE X (.List es pos) (zHa t) := by
 intro pins s σ H Q I hq;refine wpAny_List_spliced (thn (h pos pins s σ H _ I hq) fun us s1 ⟨xs, H1, I1, r, z, q⟩ => ⟨by rw [<- r.length]; exact z, ?_⟩);have hf : H1 s1.heap.objs.size = none := I1.hok.fresh (Qw _);refine ⟨.ref s1.heap.objs.size, upd H1 s1.heap.objs.size (.lst xs), I1.laid (t' := s1.toks) (fun b u e => Qz _ e) (Qw _) ?_, rfl, q _ hf⟩;exact ⟨z, us, 0, r, Qb _ rfl⟩
end
abbrev Sp := List V -> Hp -> VK -> XK -> Prop
abbrev CXT := List Env -> Hp -> Shared -> XK -> Value -> Shared -> Prop
structure zBh (P : Program) (w : World) (K : PySem.W.Frag) (mg : Str -> Option Value) (base : Heap) (A : Around) (outer : List Env) (s : Shared) (H : Hp) : Prop where
 frames : A.frames = some outer
 mod : Mod K mg base
 bs : ∀ b o, base.get? b = some o -> s.heap.get? b = some o /\ H b = none
 bsz : base.objs.size <= s.heap.objs.size
 funs : s.heap.FunFrames base outer
 frf : ∀ b ∈ frs outer, H b = none
 hok : HOk P w H s.heap
 bare : AllBare s.gens
def CE (outer : List Env) (P : Program) (w : World) (H : Hp) (s : Shared) (Q : VK) (u : Value) (s' : Shared) : Prop :=
 ∃ v H', s'.os = s.os /\ AllBare s'.gens /\ Un (frs outer) [] H H' s.heap s'.heap /\ HOk P w H' s'.heap /\ RelV v u /\ Q v H'
def CR (CX : CXT) (outer : List Env) (P : Program) (w : World) (H : Hp) (s : Shared) (Q : VK) (E : XK) (r : Result) (s' : Shared) : Prop :=
 match r with
 | .ok (.ret u) => CE outer P w H s Q u s'
 | .ok _ => False
 | .error e => CX outer H s E e s'
structure zhe (P : Program) (w : World) (K : PySem.W.Frag) (mg : Str -> Option Value) (base : Heap) (CX : CXT) (k : Nat) (f : Addr) (fd : FuncData) (ps : List Str) (sp : Sp) : Prop where
 len : ∀ vs H Q E, sp vs H Q E -> vs.length = ps.length
 run : ∀ (A : Around) (outer : List Env) (s : Shared) (H : Hp) (args : Args) (us : List Value) (vs : List V) (Q : VK) (E : XK), Room k A -> zBh P w K mg base A outer s H -> BindsTo s fd args (ps.zip us) -> Vals vs us -> sp vs H Q E ->
  codeAny (model P w) A (.call (.ref f) args) (CR CX outer P w H s Q E) s
section
variable {X : Cx} {pins : List (Addr × Obj)} {σ : St} {H : Hp} {s s' : Shared}
theorem Inv.env0 (I : Inv X pins σ H s) : zBh X.prog X.w X.K X.mg X.base X.A X.stack s H :=
 ⟨I.ok.frames, I.ok.mod, I.bs, Jx I.ok.bsz I.sz, I.stack, I.stkFree, I.hok, I.bare⟩
theorem Inv.after {Q : VK} {u : Value} (I : Inv X pins σ H s) (h : CE X.stack X.prog X.w H s Q u s') : EP X pins σ Q u s' := by
 obtain ⟨v, H', os, bare, un, hok, r, q⟩ := h;obtain ⟨hh, g, d, t, os'⟩ := s';obtain rfl : os' = s.os := os;exact ⟨v, H', I.call (h' := hh) (g' := g) (d' := d) (t' := t) (ch := []) un hok bare (fun b z => absurd z (by simp)), r, q⟩
end
def zwt (sp : Sp) (dvs : List V) (E : XK) (t : TA) : TE := fun σ H Q => t σ H fun vs H1 => sp (vs ++ dvs) H1 Q E
def Binds (K : PySem.W.Frag) (fd : FuncData) (ps : List Str) (ds : List Value) : Prop :=
 ∀ (s : Shared) (us : List Value), K.In s.heap -> (us ++ ds).length = ps.length -> BindsTo s fd ⟨us, []⟩ (ps.zip (us ++ ds))
theorem Binds.all {K : PySem.W.Frag} {fd : FuncData} {ps : List Str} (h : ∀ us : List Value, us.length = ps.length -> bindArgs fd ⟨us, []⟩ = pure (ps.zip us)) : Binds K fd ps [] := fun s us _ hl => by
 rw [Jw] at hl ⊢;exact .of_eq (h us hl)
def zis (CX : CXT) (X : Cx) (E : XK) : Prop := ∀ (pins : List (Addr × Obj)) (σ : St) (H : Hp) (s : Shared) (e : Value) (s' : Shared), Inv X pins σ H s -> CX X.stack H s E e s' -> X.xe e s'
section
variable {X : Cx} {CX : CXT} {k : Nat} {f C : Addr} {fd : FuncData} {ps : List Str} {sp : Sp} {dvs : List V} {ds : List Value} {E : XK} {x m : Str} {p pos apos : Pos} {e o : Expr} {es : List Expr} {ta : TE} {t : TA}
theorem zCf {pins : List (Addr × Obj)} {σ : St} {H : Hp} {s : Shared} {Q : VK} {us : List Value} {vs : List V} (F : zhe X.prog X.w X.K X.mg X.base CX k f fd ps sp) (hr : Room k X.A) (hb : Binds X.K fd ps ds) (hd : Vals dvs ds) (hx : zis CX X E)
  (I : Inv X pins σ H s) (r : Vals vs us) (h : sp (vs ++ dvs) H Q E) : wpAny (model X.prog X.w) X.A (call (.ref f) us) (EP X pins σ Q) X.xe s := by
 have r2 : Vals (vs ++ dvs) (us ++ ds) := r.append hd;have hl : (us ++ ds).length = ps.length := by rw [<- r2.length]; exact F.len _ _ _ _ h
 refine wpAny_call (codeAny_mono (F.run X.A X.stack s H ⟨us, []⟩ (us ++ ds) (vs ++ dvs) Q E hr I.env0 (hb s us I.kIn hl) r2 h) fun r s' hq => ?_);cases r with
 | error e => exact hx pins σ H s e s' I hq
 | ok fl =>
  cases fl with
  | ret u => exact I.after hq
  | next => exact False.elim hq
  | brk => exact False.elim hq
  | cont => exact False.elim hq
theorem zok (F : zhe X.prog X.w X.K X.mg X.base CX k f fd ps sp) (hr : Room k X.A) (hg : Gl X x) (hm : X.mg x = some (.ref f)) (hk : PySem.W.keepIn X.K (.ref f) = true) (hb : Binds X.K fd ps ds) (hd : Vals dvs ds) (hx : zis CX X E)
  (ha : PA X (e :: es) t) (hdb : (x == ("__debug__" : Str)) = false := by decide) (he : starEach (e :: es) X.env = (false, eval e X.env) :: starEach es X.env := by rfl) (hpl : (backTo pos (starEach es X.env)).any (·.1) = false := by rfl) :
  PE X (.Call (.Name x p) (e :: es) [] pos) (zwt sp dvs E t) := by
 intro pins s σ H Q I h;refine wpAny_Call_Name_kw (zot I hg hm ?_ hdb);refine PySem.W.callWith_K (h₀ := X.base) I.ok.mod.kin hk (thn (ha pos pins s σ H _ I h) fun us s1 ⟨vs, H1, I1, r, q⟩ => ⟨I1.kIn, ?_⟩) he hpl;exact zCf F hr hb hd hx I1 r q
end
section
variable {X : Cx} {CX : CXT} {k : Nat} {f C : Addr} {fd : FuncData} {ps ks : List Str} {sp : Sp} {E : XK} {x m : Str} {p pos apos kpos : Pos} {e o : Expr} {es : List Expr} {kws : List Keyword} {te ta : TE} {t tk : TA} {nm : Option Str}
variable {g : List Value -> List Value -> List Value} {gV : List V -> List V -> List V}
end
structure zL (N P : List Str) (sc : Scope) : Prop where
 kind : sc.kind = .function
 co : sc.isCoroutine = false
 gen : sc.isGenerator = false
 nd : N.Nodup
 pre : N.take P.length = P
 par : ∀ x ∈ P, sc.names.lookup x = some .local \/ sc.names.lookup x = some .cell
 nofree : ∀ y ∈ sc.names, y.2 ≠ .free
theorem zfp {kindOf : Str -> Option NameKind} {x : Str} : ∀ {binds : List (Str × Value)} {m : Str -> Option Value}, (∀ v, (x, v) ∉ binds) -> bindL kindOf binds m x = m x
 | [], _, _ => rfl
 | (n, v) :: r, m, h => by
  unfold bindL;rw [zfp fun w hw => h w (Qy _ hw)];split
  ·have : x ≠ n := by rintro rfl; exact h v Qk
   simp [this]
  ·rfl
theorem zfr {kindOf : Str -> Option NameKind} {x : Str} : ∀ {binds : List (Str × Value)} {m : Str -> Option Value}, (∀ v, (x, v) ∉ binds) -> bindC kindOf binds m x = m x
 | [], _, _ => rfl
 | (n, v) :: r, m, h => by
  unfold bindC;rw [zfr fun w hw => h w (Qy _ hw)];split
  ·rfl
  ·have : x ≠ n := by rintro rfl; exact h v Qk
   simp [this]
theorem zfq {kindOf : Str -> Option NameKind} {x : Str} {v : Value} : ∀ {P : List Str} {vs : List Value} {i : Nat} {m : Str -> Option Value}, P.Nodup -> P[i]? = some x -> vs[i]? = some v -> kindOf x = some .local ->
  bindL kindOf (P.zip vs) m x = some v
 | [], _, _, _, _, h, _, _ => by simp at h
 | _ :: _, [], _, _, _, _, h, _ => by simp at h
 | p :: P, w :: vs, 0, m, nd, h1, h2, hk => by
  simp at h1 h2; subst h1; subst h2;show bindL kindOf ((p, w) :: P.zip vs) m p = _;unfold bindL;rw [zfp fun v hv => (Jy.mp nd).1 (List.of_mem_zip hv).1, if_pos hk];simp
 | p :: P, w :: vs, i + 1, m, nd, h1, h2, hk => by
  show bindL kindOf ((p, w) :: P.zip vs) m x = _;unfold bindL;exact zfq (i := i) (Jy.mp nd).2 (by simpa using h1) (by simpa using h2) hk
theorem zfs {kindOf : Str -> Option NameKind} {x : Str} {v : Value} : ∀ {P : List Str} {vs : List Value} {i : Nat} {m : Str -> Option Value}, P.Nodup -> P[i]? = some x -> vs[i]? = some v -> kindOf x ≠ some .local ->
  bindC kindOf (P.zip vs) m x = some v
 | [], _, _, _, _, h, _, _ => by simp at h
 | _ :: _, [], _, _, _, _, h, _ => by simp at h
 | p :: P, w :: vs, 0, m, nd, h1, h2, hk => by
  simp at h1 h2; subst h1; subst h2;show bindC kindOf ((p, w) :: P.zip vs) m p = _;unfold bindC;rw [zfr fun v hv => (Jy.mp nd).1 (List.of_mem_zip hv).1, if_neg hk];simp
 | p :: P, w :: vs, i + 1, m, nd, h1, h2, hk => by
  show bindC kindOf ((p, w) :: P.zip vs) m x = _;unfold bindC;exact zfs (i := i) (Jy.mp nd).2 (by simpa using h1) (by simpa using h2) hk
def start (N : List Str) (vs : List V) : St := vs.map some ++ List.replicate (N.length - vs.length) none
def zmn (CX : CXT) (P : Program) (w : World) (K : PySem.W.Frag) (mg : Str -> Option Value) (base : Heap) (N : List Str) (qual : Str) (scope : Scope) (f : Addr) (cd : Value) (A : Around) (outer : List Env) (s : Shared) (H : Hp) (E : XK) : Cx where
 prog := P
 w := w
 K := K
 mg := mg
 base := base
 A := A.deeper (envOfC qual scope s.heap.objs.size f cd)
 N := N
 s₀ := s
 H₀ := H
 env := envOfC qual scope s.heap.objs.size f cd
 outer := outer
 stack := envOfC qual scope s.heap.objs.size f cd :: outer
 ex := []
 calm := true
 fn := fun _ => true
 pn := []
 xe := fun e s' => wpAny (model P w) (A.deeper (envOfC qual scope s.heap.objs.size f cd)) (leaving (envOfC qual scope s.heap.objs.size f cd) e) (fun _ s'' => CX outer H s E e s'') (fun e' s'' => CX outer H s E e' s'') s'
theorem zlg {sc : Scope} {n : Nat} {x : Str} (h : sc.names.lookup x = some .cell) : ∃ c, (cellsFrom n sc.names []).lookup x = some c := by
 have q := PySem.W.cellsFrom_some sc.names n [] (.inl h);exact Option.isSome_iff_exists.mp q
theorem zqr {CX : CXT} {P : Program} {w : World} {K : PySem.W.Frag} {mg : Str -> Option Value} {base : Heap} {N ps : List Str} {qual : Str} {scope : Scope} {f : Addr} {cd : Value} {A : Around} {outer : List Env} {s s1 : Shared} {H : Hp} {E : XK} {us : List Value} {vs : List V}
  (S : zL N ps scope) (hd : A.handled = none) (e0 : zBh P w K mg base A outer s H) (hl : vs.length = ps.length) (r : Vals vs us)
  (x : InCallC s s.heap.objs.size (bindL (envOfC qual scope s.heap.objs.size f cd).kindOf (ps.zip us) fun _ => none) (cellsFrom (s.heap.objs.size + 1) scope.names []) (bindC (envOfC qual scope s.heap.objs.size f cd).kindOf (ps.zip us) fun _ => none) s1) :
  Inv (zmn CX P w K mg base N qual scope f cd A outer s H E) [] (start N vs) H s1 := by
 have hpl : ps.length <= N.length := by have := congrArg List.length S.pre; rw [J8] at this; lia
 obtain ⟨h1, tk, rfl, hk⟩ := x.done;have noA : ∀ b : Addr, b ∉ (zmn CX P w K mg base N qual scope f cd A outer s H E).ex := fun b z => absurd (show b ∈ ([] : List Addr) from z) (by simp);refine ⟨⟨e0.mod, S.kind, rfl, rfl, Qw _, fun y z c h1 h2 => ?_, fun y hy => ?_, fun y c _ h => ?_, fun _ => hd, Around.frames_deeper e0.frames, .inr ⟨rfl, rfl⟩, fun b z => absurd z (noA b), e0.bs, e0.bsz, fun b _ _ => noA b, fun b z => absurd z (noA b), e0.funs, e0.frf⟩,
  rfl, e0.bare, Un.kept hk, ⟨_, x.toInCall.ns, fun i y v h1 h2 h3 => ?_⟩, fun y c h => ⟨_, x.cell y c h⟩, e0.hok.fresh (Qw _), fun y c h => ?_, fun p hp => absurd (show p ∈ ([] : List (Addr × Obj)) from hp) (by simp), e0.hok.kept hk, ?_⟩
 ·exact name_of_addr x.apart (PySem.mem_of_lookup h1) (PySem.mem_of_lookup h2)
 ·have hy : scope.names.lookup y = some .cell \/ scope.names.lookup y = some .free := hy;rcases hy with hy | hy
  ·exact zlg hy
  ·exact absurd rfl (S.nofree _ (PySem.mem_of_lookup hy))
 ·exact J9 (x.above y c (PySem.mem_of_lookup h))
 ·have hi : i < vs.length := by
   unfold start at h2;by_cases hi : i < vs.length
   ·exact hi
   ·rw [List.getElem?_append_right (by simpa using hi)] at h2;rw [List.getElem?_replicate] at h2;split at h2 <;> cases h2
  have ha : vs[i]? = some v := by
   unfold start at h2;rw [List.getElem?_append_left (by simpa using hi), Jz] at h2;cases e : vs[i]? with
   | none => rw [e] at h2; cases h2
   | some a => rw [e] at h2; cases h2; rfl
  obtain ⟨u, hu, rv⟩ := r.get ha;have hp : ps[i]? = some y := by
   rw [<- S.pre, List.getElem?_take_of_lt (by lia)]; exact h1
  have ndP : ps.Nodup := by rw [<- S.pre]; exact S.nd.sublist (List.take_sublist _ _)
  refine ⟨u, rv, ?_⟩;rcases S.par y (Jq hp) with k | k
  ·exact .inl ⟨k, zfq ndP hp hu k⟩
  ·obtain ⟨c, e⟩ := zlg (n := s.heap.objs.size + 1) k;refine .inr ⟨.inl k, c, e, ?_⟩;have q := x.cell y c e;rw [zfs ndP hp hu (by show scope.names.lookup y ≠ _; rw [k]; decide)] at q;exact q
 ·exact e0.hok.fresh (J9 (x.above y c (PySem.mem_of_lookup h)))
 ·unfold start;show _ = N.length;rw [Q3, Qj, List.length_replicate];lia
theorem zBa {CX : CXT} {P : Program} {w : World} {K : PySem.W.Frag} {mg : Str -> Option Value} {base : Heap} {k : Nat} {f : Addr} {name qual : Str} {params : Arguments} {body : List Stmt} {scope : Scope} {dV kV doc pm cdv ct oc : Value} {an od : Option Addr}
  {osl : Array (Option Value)} {N ps : List Str} {sp : Sp} (lk : K.lookup f = some ⟨oc, od, .func (PySem.W.fnOf name qual params body scope dV kV doc pm an cdv ct), osl⟩) (hcd : PySem.W.codeIn K cdv qual = true) (S : zL N ps scope)
  (len : ∀ vs H Q E, sp vs H Q E -> vs.length = ps.length)
  (hbody : ∀ (A : Around) (outer : List Env) (s : Shared) (H : Hp) (vs : List V) (Q : VK) (E : XK), Room k (A.deeper (envOfC qual scope s.heap.objs.size f cdv)) -> sp vs H Q E ->
   ∃ t, PSs (zmn CX P w K mg base N qual scope f cdv A outer s H E) body t /\ t { nx := fun _ H' => Q .non H', rt := Q } (start N vs) H) :
  zhe P w K mg base CX (k + 1) f (PySem.W.fnOf name qual params body scope dV kV doc pm an cdv ct) ps sp := by
 refine ⟨len, fun A outer s H args us vs Q E hr e0 hb r hsp => ?_⟩;have hl := len _ _ _ _ hsp;have KX : K.In s.heap := e0.mod.kin.keeps fun b o e => (e0.bs b o e).1;have lim : s.heap.NoLimit := e0.mod.nolimit.keeps fun b o e => (e0.bs b o e).1;have hkind : ∀ y ∈ ps.zip us, scope.names.lookup y.1 = some .local \/ (scope.names.lookup y.1 = some .cell /\ ((cellsFrom (s.heap.objs.size + 1) scope.names []).lookup y.1).isSome = true) := fun ⟨n, v⟩ hy => by
  rcases S.par n (List.of_mem_zip hy).1 with q | q
  ·exact .inl q
  ·exact .inr ⟨q, PySem.W.cellsFrom_some _ _ _ (.inl q)⟩
 refine codeAny_call_function hr.depth (KX _ _ lk) rfl S.co S.gen rfl (PySem.W.codeRec_of KX hcd) (hb _ _ _ _ ?_);refine wpAny_newFunctionEnv_cells S.kind hkind fun env he s1 x => ?_;subst he;refine ⟨lim.keeps x.toInCall.keep, codeAny_func ?_⟩;obtain ⟨t, ht, hq⟩ := hbody A outer s H vs Q E (hr.deeper _) hsp;have I : Inv (zmn CX P w K mg base N qual scope f cdv A outer s H E) [] (start N vs) H s1 := zqr S hr.hd e0 hl r x;refine wpAny_mono (ht [] s1 (start N vs) H _ I hq) (fun fl s' hs => ?_) fun e s' hs => hs;have fin : ∀ {σ' : St} {H' : Hp} {v : V} {u : Value}, Inv (zmn CX P w K mg base N qual scope f cdv A outer s H E) [] σ' H' s' -> RelV v u -> Q v H' -> CE outer P w H s Q u s' :=
  fun {σ' H' v u} J rv q => ⟨v, H', J.os, J.bare, J.base, J.hok, rv, q⟩
 cases fl with
 | ret u =>
  obtain ⟨v, σ', H', J, rv, q⟩ := hs;exact fin J rv q
 | next =>
  obtain ⟨σ', H', J, q⟩ := hs;exact fin (v := V.non) (u := Value.none) J rfl q
 | brk =>
  obtain ⟨_, _, _, q⟩ := hs;exact False.elim q
 | cont =>
  obtain ⟨_, _, _, q⟩ := hs;exact False.elim q
section
variable {X : Cx} {x : Str} {p pos : Pos} {e : Expr} {es : List Expr} {t : TA} {id T : String} {r : List V -> Hp -> VK -> Prop}
def tCB (r : List V -> Hp -> VK -> Prop) (t : TA) : TE := fun σ H Q => t σ H fun vs H1 => r vs H1 Q
theorem zN (hc : xE X (.builtin id) r) (hg : Gl X x) (hm : X.mg x = none) (hv : bootBuiltins x = some (.builtin id)) (ha : PA X (e :: es) t) (hn : x ≠ "__name__" := by decide) (hdb : (x == ("__debug__" : Str)) = false := by decide)
  (he : starEach (e :: es) X.env = (false, eval e X.env) :: starEach es X.env := by rfl) (hpl : (backTo pos (starEach es X.env)).any (·.1) = false := by rfl) : PE X (.Call (.Name x p) (e :: es) [] pos) (tCB r t) := by
 intro pins s σ H Q I h;refine wpAny_Call_Name_kw (zbf I hg hm hv ?_ hn hdb);exact PyProof.Rows.callWith_builtin1 (thn (ha pos pins s σ H _ I h) fun us s1 ⟨vs, H1, I1, r1, q1⟩ => hc pins s1 σ H1 vs us Q I1 r1 q1) he hpl
theorem zY (hc : xE X (.type T) r) (hg : Gl X x) (hm : X.mg x = none) (hv : bootBuiltins x = some (.type T)) (ha : PA X (e :: es) t) (hn : x ≠ "__name__" := by decide) (hdb : (x == ("__debug__" : Str)) = false := by decide)
  (he : starEach (e :: es) X.env = (false, eval e X.env) :: starEach es X.env := by rfl) (hpl : (backTo pos (starEach es X.env)).any (·.1) = false := by rfl) : PE X (.Call (.Name x p) (e :: es) [] pos) (tCB r t) := by
 intro pins s σ H Q I h;refine wpAny_Call_Name_kw (zbf I hg hm hv ?_ hn hdb);exact PyProof.Rows.callWith_type1 (thn (ha pos pins s σ H _ I h) fun us s1 ⟨vs, H1, I1, r1, q1⟩ => hc pins s1 σ H1 vs us Q I1 r1 q1) he hpl
end
end L2
namespace HT
open PySem PyProof.Rows
def lexLt : List Int -> List Int -> Bool
 | [], [] => false
 | [], _ :: _ => true
 | _ :: _, [] => false
 | x :: xs, y :: ys => if x = y then lexLt xs ys else decide (x < y)
theorem lexLt_cons (x y : Int) (xs ys : List Int) : lexLt (x :: xs) (y :: ys) = if x = y then lexLt xs ys else decide (x < y) := rfl
section
open PySem.SeqAt
open PySem.AutoSeq1 (wpAny_loadPart')
open PySem.MeetsSeq PySem.MeetsSeq2 PySem.MeetsSeq3
end
section
variable {prog : Program} {w : World} {A : Around} {E : Value -> Shared -> Prop} {s : Shared}
theorem cat_tup {t b : Addr} {vs ws : List Value} {Q : Value -> Shared -> Prop} (ht : IsTup s.heap t vs.toArray) (hb : IsTup s.heap b ws.toArray) (hv : vs ≠ [])
  (h1 : ws = [] -> Q (.ref t) s) (h2 : ws ≠ [] -> Q (.ref s.heap.objs.size) { s with heap := s.heap.push { cls := .type "tuple", data := .seq (vs ++ ws).toArray } })
  (hsz : vs.length + ws.length <= sizeLine) : wpAny (model prog w) A (binaryOp .Add (.ref t) (.ref b)) Q E s := by
 obtain ⟨⟨cls, dd, data, sl⟩, ho, hc, n, hd⟩ := id ht;obtain ⟨⟨cls2, dd2, data2, sl2⟩, ho2, hc2, n2, hd2⟩ := id hb;simp only at hc hd hc2 hd2;subst hc hd hc2 hd2;have e : vs.toArray ++ ws.toArray = (vs ++ ws).toArray := by simp
 by_cases hw : ws = []
 ·exact concat_meets ⟨_, ho, rfl⟩ ⟨_, ho2, rfl⟩ noFill_tuple_add seq_tuple_add PySem.F.slot_tuple_add PySem.F.entry_tuple_add (PySem.F.args_tuple_add_2 _ _)
   (tuple_addW1 t b vs.toArray ws.toArray n n2 dd dd2 sl sl2 (by simpa using hv) (by simp [hw])) ⟨ho, ho2, h1 hw⟩
 ·refine concat_meets ⟨_, ho, rfl⟩ ⟨_, ho2, rfl⟩ noFill_tuple_add seq_tuple_add PySem.F.slot_tuple_add PySem.F.entry_tuple_add (PySem.F.args_tuple_add_2 _ _)
   (tuple_addW2 t b vs.toArray ws.toArray n n2 dd dd2 sl sl2 (by simpa using hv) (by simpa using hw) (by rw [Qh, Qh]; exact hsz)) ⟨ho, ho2, ?_⟩
  rw [e];exact h2 hw
def sIx (n d : Nat) : Option Int -> Nat
 | none => d
 | some v => if v < 0 then (v + (n : Int)).toNat else min v.toNat n
theorem sIx_nat (n d k : Nat) : sIx n d (some (k : Int)) = min k n := by
 show (if (k : Int) < 0 then ((k : Int) + (n : Int)).toNat else min (k : Int).toNat n) = min k n;rw [if_neg (by lia), Q4]
theorem zCe (n d : Nat) (hd : d <= n) (o : Option Int) : sIx n d o <= n := by
 cases o with
 | none => exact hd
 | some v =>
  show (if v < 0 then (v + (n : Int)).toNat else min v.toNat n) <= n;by_cases hv : v < 0
  ·rw [if_pos hv]; lia
  ·rw [if_neg hv]; exact Nat.min_le_right _ _
theorem zph (v : Int) (n d : Nat) : (if v < 0 then max (v + (n : Int)) 0 else min v (n : Int)) = ((sIx n d (some v) : Nat) : Int) := by
 show (if v < 0 then max (v + (n : Int)) 0 else min v (n : Int)) = (((if v < 0 then (v + (n : Int)).toNat else min v.toNat n) : Nat) : Int);by_cases hv : v < 0
 ·simp only [if_pos hv]; lia
 ·simp only [if_neg hv]; lia
theorem zmv (lo hi : Option Int) (n : Nat) : Builtin.Slice.sliceAdjust lo hi 1 (n : Int) = (((sIx n 0 lo : Nat) : Int), ((sIx n n hi : Nat) : Int)) := by
 have h1 : ¬ ((1 : Int) < 0) := by lia
 unfold Builtin.Slice.sliceAdjust;simp only [h1, if_false];refine Prod.ext ?_ ?_
 ·cases lo with
  | none => rfl
  | some v => exact zph v n 0
 ·cases hi with
  | none => rfl
  | some v => exact zph v n n
theorem zma (i j : Nat) : Builtin.Slice.slicePlaces (i : Int) (j : Int) 1 = j - i := by
 unfold Builtin.Slice.slicePlaces;have h1 : (1 : Int) > 0 := by lia
 simp only [h1, if_true, Int.ediv_one];split <;> lia
theorem zbr {v : Value} {o : Option Int} {Q : Option Int -> Shared -> Prop} (p : IsPart v o) (h : Q o s) : wpAny (model prog w) A (Builtin.Slice.slicePartIndex v) Q E s := by
 cases p with
 | none => exact slicePart_none h
 | int i t => exact slicePart_int h
theorem gL {sl : Addr} {vl vu : Value} {lo hi : Option Int} {n : Nat} {Q : Int × Int × Nat -> Shared -> Prop} (hs : s.heap.IsSliceOf sl vl vu .none) (pl : IsPart vl lo) (pu : IsPart vu hi)
  (h : Q (((sIx n 0 lo : Nat) : Int), 1, sIx n n hi - sIx n 0 lo) s) : wpAny (model prog w) A (Builtin.Slice.sliceApplied (.ref sl) (pure (n : Int))) Q E s := by
 obtain ⟨os, hos, hcs, hds⟩ := id hs;unfold Builtin.Slice.sliceApplied Builtin.Slice.sliceFields;refine Qq (Qq (wpAny_field hos hds (x := vl) rfl (Qq (wpAny_field hos hds (x := vu) rfl (Qq (wpAny_field hos hds (x := .none) rfl (Qv ?_)))))));refine Qq (slicePart_none ?_);show wpAny _ _ (if ((1 : Int) == 0) = true then _ else _) _ _ s;rw [if_neg (by decide)];refine Qq (zbr pl (Qq (zbr pu (Qq (Qv ?_)))));show wpAny _ _ (match Builtin.Slice.sliceAdjust lo hi 1 (n : Int) with | (lo, hi) => pure (lo, (1 : Int), Builtin.Slice.slicePlaces lo hi 1)) _ _ s
 rw [zmv lo hi n];show wpAny _ _ (pure (((sIx n 0 lo : Nat) : Int), (1 : Int), Builtin.Slice.slicePlaces ((sIx n 0 lo : Nat) : Int) ((sIx n n hi : Nat) : Int) 1)) _ _ s;rw [zma];exact Qv h
theorem ztn (xs : Array Value) (i k : Nat) : ((List.range k).filterMap fun (m : Nat) => xs[((i : Int) + (m : Int) * 1).toNat]?).toArray = ((xs.toList.drop i).take k).toArray := by
 have e : (fun (m : Nat) => xs[((i : Int) + (m : Int) * 1).toNat]?) = fun m => xs[i + m]? := by
  funext m
  have : ((i : Int) + (m : Int) * 1).toNat = i + m := by lia
  rw [this]
 rw [e];have := pick_run xs i k;rw [List.filterMap_map] at this;have e2 : ((fun x => xs[x]?) ∘ fun x => i + x) = fun m => xs[i + m]? := rfl;rw [e2] at this;rw [this]
theorem getItem_tuple_cut {t sl : Addr} {items : Array Value} {vl vu : Value} {lo hi : Option Int} {Q : Value -> Shared -> Prop} (ht : IsTup s.heap t items) (hs : s.heap.IsSliceOf sl vl vu .none) (pl : IsPart vl lo) (pu : IsPart vu hi)
  (hw : ¬ (sIx items.size 0 lo = 0 /\ sIx items.size items.size hi = items.size))
  (h : Q (.ref s.heap.objs.size) { s with heap := s.heap.push { cls := .type "tuple", data := .seq ((items.toList.drop (sIx items.size 0 lo)).take (sIx items.size items.size hi - sIx items.size 0 lo)).toArray } })
  (hsz : items.size <= sizeLine) : wpAny (model prog w) A (getItem (.ref t) (.ref sl)) Q E s := by
 have htake : sizeOk (.seq ((items.toList.drop (sIx items.size 0 lo)).take (sIx items.size items.size hi - sIx items.size 0 lo)).toArray) := by
  show ((items.toList.drop (sIx items.size 0 lo)).take (sIx items.size items.size hi - sIx items.size 0 lo)).toArray.size <= sizeLine;rw [Qh, J8, List.length_drop, Array.length_toList];lia
 have hj : sIx items.size items.size hi <= items.size := zCe _ _ (Qw _) hi;obtain ⟨os, hos, hcs, hds⟩ := id hs;have hTs : s.TypeIs (.ref sl) "slice" := ⟨os, hos, hcs⟩;unfold getItem
 try with_reducible refine wpAny_holding ?_
 first | refine Qq (Qv ?_) | skip
 refine Qq (wpAny_sequenceKey ht.typeIs (by decide) ?_);refine Qq (wpAny_callSpecial?_slot (name := Str.ofString "__getitem__") ht.typeIs PyProof.Rows.slot_tuple_getitem
  (Jd PyProof.Rows.slot_tuple_getitem ht.typeIs entry_tuple_getitem ?_ (args_tuple_getitem _ _)))
 show wpAny _ _ (Builtin.Tuple.tupleItemsOf (.ref t) >>= _) _ _ s;refine Qq (tupleItemsOf_ ht ?_);refine Qq (wpAny_typeOf hTs ?_);rw [if_pos (by decide)];refine Qq (gL hs pl pu ?_);have hno : ¬ ((((sIx items.size 0 lo : Nat) : Int) == 0 && (1 : Int) == 1 && (sIx items.size items.size hi - sIx items.size 0 lo) == items.size) = true) := by
  intro q;rw [Q5, Q5] at q;have q1 : ((sIx items.size 0 lo : Nat) : Int) = 0 := eq_of_beq q.1.1;have q2 : sIx items.size items.size hi - sIx items.size 0 lo = items.size := eq_of_beq q.2;exact hw ⟨by lia, by lia⟩
 show wpAny _ _ (if (((sIx items.size 0 lo : Nat) : Int) == 0 && (1 : Int) == 1 && (sIx items.size items.size hi - sIx items.size 0 lo) == items.size) = true then _ else _) _ _ s;rw [if_neg hno, ztn]
 first
  | exact Qq (m := Builtin.Tuple.tupleExact _) (Jg (Qv ⟨_, rfl, Qv h⟩) htake)
  | exact Qq (m := Builtin.Tuple.tupleExact _) (Jg (Qq (Qv (Qv ⟨_, rfl, Qv h⟩))) htake)
  | exact Qq (Qq (m := Builtin.Tuple.tupleExact _) (Jg (Qv (Qv ⟨_, rfl, Qv h⟩)) htake))
  | exact Qq (Qq (m := Builtin.Tuple.tupleExact _) (Jg (Qv ⟨_, rfl, Qv h⟩) htake))
end
end HT
namespace L2
open PySem PySem.Spec PyProof.Rows
abbrev TO := St -> Hp -> (Option Int -> Hp -> Prop) -> Prop
def PO (X : Cx) (e : Option Expr) (t : TO) : Prop :=
 ∀ (pins : List (Addr × Obj)) (s : Shared) (σ : St) (H : Hp) (Q : Option Int -> Hp -> Prop), Inv X pins σ H s -> t σ H Q ->
  wpAny (model X.prog X.w) X.A (evalPart e X.env) (fun u s' => ∃ o H', Inv X pins σ H' s' /\ IsPart u o /\ Q o H') X.xe s
def zxm : TO := fun _ H Q => Q none H
def zEz (t : TE) : TO := fun σ H Q => t σ H fun x H1 => ∃ i, x = .int i /\ Q (some i) H1
theorem qB {ns : List Int} : ∀ {us : List Value}, Vals (ns.map V.int) us -> IntsAre us ns := by
 induction ns with
 | nil => intro us r; rw [List.map_nil] at r; cases r; exact .nil
 | cons n ns ih =>
  intro us r;rw [Qm] at r;cases r with
  | cons r1 r2 =>
   obtain ⟨t, e⟩ := r1;subst e;exact .cons n t (ih r2)
section
variable {X : Cx} {e : Expr} {te : TE} {lo hi : Option Expr} {tl th : TO} {pos p2 : Pos}
theorem zoe : PO X none zxm := by
 intro pins s σ H Q I h;rw [evalPart_none];exact Qv ⟨none, H, I, .none, h⟩
theorem jK (h : PE X e te) : PO X (some e) (zEz te) := by
 intro pins s σ H Q I hw;rw [evalPart_some];refine thn (h pins s σ H _ I hw) fun u s1 ⟨x, H1, I1, r1, q1⟩ => ?_;obtain ⟨i, rfl, q⟩ := q1;obtain ⟨t, rfl⟩ := r1;exact ⟨some i, H1, I1, .int i t, q⟩
def SlR (X : Cx) (r : V -> Option Int -> Option Int -> Hp -> VK -> Prop) : Prop :=
 ∀ (pins : List (Addr × Obj)) (s : Shared) (σ : St) (H : Hp) (x : V) (v vl vu : Value) (lo hi : Option Int) (sl : Addr) (Q : VK), Inv X pins σ H s -> RelV x v -> s.heap.IsSliceOf sl vl vu .none -> IsPart vl lo -> IsPart vu hi -> r x lo hi H Q ->
  ∃ T id, typeLookup (.type T) "__getitem__" = pure (some (.builtin id)) /\ s.TypeIs v T /\ wpAny (model X.prog X.w) X.A (getItem v (.ref sl)) (EP X pins σ Q) X.xe s
def tSl (r : V -> Option Int -> Option Int -> Hp -> VK -> Prop) (te : TE) (tl th : TO) : TE := fun σ H Q => te σ H fun x H1 => tl σ H1 fun l H2 => th σ H2 fun u H3 => r x l u H3 Q
theorem kY {r : V -> Option Int -> Option Int -> Hp -> VK -> Prop} (hr : SlR X r) (he : PE X e te) (hl : PO X lo tl) (hu : PO X hi th) : PE X (.Subscript e (.Slice lo hi none p2) pos) (tSl r te tl th) := by
 intro pins s σ H Q I h;refine Subscript_ (thn (he pins s σ H _ I h) fun v s1 ⟨x, H1, I1, r1, q1⟩ => ?_);refine wpAny_Slice (thn (hl pins s1 σ H1 _ I1 q1) fun vl s2 ⟨l, H2, I2, pl, q2⟩ => thn (hu pins s2 σ H2 _ I2 q2) fun vu s3 ⟨u, H3, I3, pu, q3⟩ => ?_);rw [evalPart_none];refine Qv ?_;have I4 : Inv X pins σ H3 { s3 with heap := s3.heap.push { cls := .type "slice", data := .fields #[vl, vu, .none] } } := I3.kept (t' := s3.toks) fun b ob q => Qz _ q;obtain ⟨T, id, hT, ht, hg⟩ := hr pins { s3 with heap := s3.heap.push { cls := .type "slice", data := .fields #[vl, vu, .none] } } σ H3 x v vl vu l u s3.heap.objs.size Q I4 r1 (Heap.IsSliceOf.new ..) pl pu q3;show wpAny (model X.prog X.w) X.A (subscriptTail e (.Slice lo hi none p2) v (.ref s3.heap.objs.size)) (EP X pins σ Q) X.xe { s3 with heap := s3.heap.push { cls := .type "slice", data := .fields #[vl, vu, .none] } };exact tail_any (ops := [.ref s3.heap.objs.size, v]) ht hT hg (by with_unfolding_all rfl)
def zbh (xs : List V) (lo hi : Option Int) : List V := (xs.drop (HT.sIx xs.length 0 lo)).take (HT.sIx xs.length xs.length hi - HT.sIx xs.length 0 lo)
theorem zan (xs : List V) (lo hi : Option Int) : (zbh xs lo hi).length <= xs.length := by
 unfold zbh;rw [J8, List.length_drop];lia
def zGk (K : PySem.W.Frag) : V -> Option Int -> Option Int -> Hp -> VK -> Prop := fun x lo hi H Q => ∃ a xs, x = .ref a /\ SqT K H a xs /\
 ¬ (HT.sIx xs.length 0 lo = 0 /\ HT.sIx xs.length xs.length hi = xs.length) /\ ∀ p, H p = none -> Q (.ref p) (upd H p (.tup (zbh xs lo hi)))
theorem zBv : SlR X (zGk X.K) := by
 intro pins s σ H x v vl vu lo hi sl Q I rx hs pl pu h;obtain ⟨a, xs, rfl, hx, hw, q⟩ := h;cases rx
 obtain ⟨its, r, ht, hz⟩ := I.tuple hx;have hlen : its.toArray.size = xs.length := by rw [Qh]; exact r.length.symm
 refine ⟨"tuple", _, PyProof.Rows.slot_tuple_getitem.lookup, ht.typeIs, ?_⟩;refine HT.getItem_tuple_cut ht hs pl pu (by rw [hlen]; exact hw) ?_ (by rw [hlen]; exact hz);rw [hlen];refine ⟨.ref s.heap.objs.size, _, I.laid (t' := s.toks) (o := .tup (zbh xs lo hi)) (fun b ob q => Qz _ q) (Qw _) ?_, rfl, q _ (I.hok.fresh (Qw _))⟩;exact ⟨Jx (zan xs lo hi) hz, _, (r.drop (HT.sIx xs.length 0 lo)).take (HT.sIx xs.length xs.length hi - HT.sIx xs.length 0 lo), IsTup.new _ _⟩
def zwv (K : PySem.W.Frag) : R2 := fun x y H Q => ∃ a b xs ys, x = .ref a /\ y = .ref b /\ SqT K H a xs /\ SqT K H b ys /\ xs ≠ [] /\ xs.length + ys.length <= sizeLine /\
 (ys = [] -> Q (.ref a) H) /\ (ys ≠ [] -> ∀ p, H p = none -> Q (.ref p) (upd H p (.tup (xs ++ ys))))
theorem Vals.nil_iff {xs : List V} {us : List Value} (r : Vals xs us) : us = [] ↔ xs = [] := by
 cases r with
 | nil => simp
 | cons _ _ => simp
theorem zom : OpR X (binaryOp .Add) (zwv X.K) := by
 intro pins s σ H x y v u Q I rx ry h;obtain ⟨a, b, xs, ys, rfl, rfl, ha, hb, hx, hz, q1, q2⟩ := h;cases rx
 cases ry
 obtain ⟨its, r1, p1, _⟩ := I.tuple ha;obtain ⟨its2, r2, p2, _⟩ := I.tuple hb;refine HT.cat_tup p1 p2 (fun z => hx (r1.nil_iff.mp z)) (fun z => ⟨.ref a, H, I, rfl, q1 (r2.nil_iff.mp z)⟩) (fun z => ?_) (by rw [<- r1.length, <- r2.length]; exact hz);refine ⟨.ref s.heap.objs.size, _, I.laid (t' := s.toks) (o := .tup (xs ++ ys)) (fun b ob q => Qz _ q) (Qw _) ?_, rfl, q2 (fun w => z (r2.nil_iff.mpr w)) _ (I.hok.fresh (Qw _))⟩;exact ⟨by rw [Q3]; exact hz, _, r1.append r2, IsTup.new _ _⟩
end
def ixN (n : Nat) (i : Int) : Option Nat := if 0 <= i then (if i < n then some i.toNat else none) else if -(n : Int) <= i then some (i + n).toNat else none
def atI {α : Type} (xs : List α) (i : Int) : Option α := (ixN xs.length i).bind fun j => xs[j]?
theorem zou {n : Nat} {i : Int} {j : Nat} (h : ixN n i = some j) : seqIndex? i n = some j /\ j < n /\ -(n : Int) <= i /\ i < n := by
 unfold ixN at h;by_cases h0 : 0 <= i
 ·rw [if_pos h0] at h;by_cases h1 : i < n
  ·rw [if_pos h1] at h;have e : i.toNat = j := Option.some.inj h;exact ⟨by rw [seqIndex_of h0 h1, e], by lia, by lia, h1⟩
  ·rw [if_neg h1] at h; cases h
 ·rw [if_neg h0] at h;by_cases h1 : -(n : Int) <= i
  ·rw [if_pos h1] at h;have e : (i + n).toNat = j := Option.some.inj h;exact ⟨by rw [seqIndex_neg (by lia) h1, e], by lia, h1, by lia⟩
  ·rw [if_neg h1] at h; cases h
theorem zpk {α : Type} {xs : List α} {i : Int} {v : α} (h : atI xs i = some v) : ∃ j, seqIndex? i xs.length = some j /\ xs[j]? = some v /\ j < xs.length /\ -(xs.length : Int) <= i /\ i < xs.length := by
 unfold atI at h;cases e : ixN xs.length i with
 | none => rw [e] at h; cases h
 | some j =>
  rw [e] at h;obtain ⟨h1, h2, h3, h4⟩ := zou e;exact ⟨j, h1, h, h2, h3, h4⟩
theorem yC {α : Type} {xs : List α} {j : Nat} {v : α} (h : xs[j]? = some v) : atI xs (j : Int) = some v := by
 have hj : j < xs.length := (Qf.mp h).1;have e : ixN xs.length (j : Int) = some j := by
  unfold ixN;rw [if_pos (by lia), if_pos (by lia)]; simp
 unfold atI; rw [e]; exact h
theorem zlk {α : Type} (xs : List α) (v : α) : atI (xs ++ [v]) (-1) = some v := by
 have hl : (xs ++ [v]).length = xs.length + 1 := by simp
 have e : ixN (xs ++ [v]).length (-1) = some xs.length := by
  unfold ixN;rw [hl, if_neg (by decide), if_pos (by lia)];congr 1;lia
 unfold atI;rw [e];show (xs ++ [v])[xs.length]? = some v;simp
def zAd (b : Expr) : Prop := ∀ o i, subscripted b false o i = operate [o, i] (getItem o i)
def IxR (X : Cx) (r : R2) : Prop :=
 ∀ (value slice : Expr) (pins : List (Addr × Obj)) (s : Shared) (σ : St) (H : Hp) (x y : V) (v u : Value) (Q : VK), Inv X pins σ H s -> RelV x v -> RelV y u -> r x y H Q ->
  subscripted slice false v u = operate [v, u] (getItem v u) -> wpAny (model X.prog X.w) X.A (subscriptTail value slice v u) (EP X pins σ Q) X.xe s
def MtR (X : Cx) (id : String) (r : V -> List V -> Hp -> VK -> Prop) : Prop :=
 ∀ (pins : List (Addr × Obj)) (s : Shared) (σ : St) (H : Hp) (x : V) (xs : List V) (v : Value) (us : List Value) (Q : VK), Inv X pins σ H s -> RelV x v -> Vals xs us -> r x xs H Q ->
  wpAny (model X.prog X.w) X.A (call (.builtin id) (v :: us)) (EP X pins σ Q) X.xe s
section
variable {X : Cx} {a b : Expr} {ta tb : TE} {pos : Pos}
theorem yO {r : R2} (hr : IxR X r) (ha : PE X a ta) (hb : PE X b tb) (hs : zAd b) : PE X (.Subscript a b pos) (tOp r ta tb) := by
 intro pins s σ H Q I h;exact Subscript_ (zEq ha hb I h fun v u s2 x y H2 I2 rx ry q => hr a b pins s2 σ H2 x y v u Q I2 rx ry q (hs _ _))
def zEn (K : PySem.W.Frag) : R2 := fun x y H Q => ∃ p xs i v, x = .ref p /\ y = .int i /\ SqL K H p xs /\ atI xs i = some v /\ Q v H
def zkb (K : PySem.W.Frag) : R2 := fun x y H Q => ∃ p xs i v, x = .ref p /\ y = .int i /\ SqT K H p xs /\ atI xs i = some v /\ Q v H
theorem zyt : IxR X (zEn X.K) := by
 intro value slice pins s σ H x y v u Q I rx ry h hs;obtain ⟨p, xs, i, z, rfl, rfl, hq, he, q⟩ := h;cases rx
 obtain ⟨t, rfl⟩ := ry;obtain ⟨its, r, pl, hz⟩ := I.list hq;obtain ⟨j, h1, h2, h3, h4, h5⟩ := zpk he;obtain ⟨w, ew, rw'⟩ := r.get h2;have hl := r.length;have hn := zds;have fin : EP X pins σ Q w s := ⟨z, H, I, rw', q⟩;by_cases h0 : 0 <= i
 ·have hj : i.toNat = j := by
   rw [seqIndex_of h0 h5] at h1;exact Option.some.inj h1
  exact item_listR pl.isList h0 (by lia) (by rw [hj]; simpa using ew) fin hs
 ·have hj : (i + (its.toArray.size : Int)).toNat = j := by
   rw [seqIndex_neg (by lia) h4] at h1;rw [Qh, <- hl];exact Option.some.inj h1
  exact subscriptTail_builtinR (x := w) pl.isList.typeIs slot_list_getitem.lookup
   (wpAny_getItem_list_neg (Q := fun r s' => r = w /\ EP X pins σ Q r s') pl.isList (by lia) (by rw [Qh] <;> lia) (by lia) (by rw [hj]; simpa using ew) ⟨rfl, fin⟩) hs
theorem zDo : IxR X (zkb X.K) := by
 intro value slice pins s σ H x y v u Q I rx ry h hs;obtain ⟨p, xs, i, z, rfl, rfl, hq, he, q⟩ := h;cases rx
 obtain ⟨t, rfl⟩ := ry;obtain ⟨its, r, pl, hz⟩ := I.tuple hq;obtain ⟨j, h1, h2, h3, h4, h5⟩ := zpk he;obtain ⟨w, ew, rw'⟩ := r.get h2;have hl := r.length;have hn := zds;have fin : EP X pins σ Q w s := ⟨z, H, I, rw', q⟩;exact subscriptTail_builtinR (x := w) pl.typeIs slot_tuple_getitem.lookup
  (getItem_tuple (j := j) (Q := fun r s' => r = w /\ EP X pins σ Q r s') pl (by lia) (by lia) (by rw [Qh, <- hl]; exact h1) (by simpa using ew) ⟨rfl, fin⟩) hs
theorem zmb (its : List Value) (n j : Nat) (u : Value) : Obj.mapSeq (·.setIfInBounds j u) { cls := .type "list", data := .seq its.toArray n } = { cls := .type "list", data := .seq (its.set j u).toArray n } := by
 simp [Obj.mapSeq]
theorem Inv.lst {pins : List (Addr × Obj)} {σ : St} {H : Hp} {s : Shared} {p : Addr} {xs : List V} (I : Inv X pins σ H s) (h : H p = some (.lst xs)) :
  ∃ (its : List Value) (n : Nat), Vals xs its /\ s.heap.get? p = some { cls := .type "list", data := .seq its.toArray n } /\ xs.length <= sizeLine := by
 obtain ⟨z, its, n, r, e⟩ := I.hok p _ h;exact ⟨its, n, r, e, z⟩
theorem Inv.lstUpd {pins : List (Addr × Obj)} {σ : St} {H : Hp} {s : Shared} {p : Addr} {xs ys : List V} {its its' : List Value} {n n' : Nat} {f : Obj -> Obj} (I : Inv X pins σ H s) (h : H p = some (.lst xs))
  (ho : s.heap.get? p = some { cls := .type "list", data := .seq its.toArray n }) (hf : f { cls := .type "list", data := .seq its.toArray n } = { cls := .type "list", data := .seq its'.toArray n' }) (r : Vals ys its') (hz : ys.length <= sizeLine) (t : Nat) :
  Inv X pins σ (upd H p (.lst ys)) { s with heap := s.heap.update p f, toks := t } := by
 have e : (s.heap.update p f).get? p = some { cls := .type "list", data := .seq its'.toArray n' } := by
  rw [Wt f ho (by rw [hf] <;> rfl), hf]
 refine I.write (x := p) (e := p) (by rw [h]; trivial) (.inl rfl) (fun b u hb q => (Wd _ _ (Ne.symm hb)).trans q) ⟨_, e⟩ ?_;exact ⟨hz, its', n', r, e⟩
def zFg : V -> V -> V -> Hp -> (Hp -> Prop) -> Prop := fun o i v H Q => ∃ p xs k j, o = .ref p /\ i = .int k /\ H p = some (.lst xs) /\ ixN xs.length k = some j /\ Q (upd H p (.lst (xs.set j v)))
theorem zcw : zGv X zFg := by
 intro pins s σ H o i v ov iv u Q I ro ri rv h;obtain ⟨p, xs, k, j, rfl, rfl, hp, hj, q⟩ := h;cases ro
 obtain ⟨t, rfl⟩ := ri;obtain ⟨its, n, r, ho, hz⟩ := I.lst hp;obtain ⟨h1, h2, h3, h4⟩ := zou hj;have hl := r.length;have hn := zds;have I' : Inv X pins σ (upd H p (.lst (xs.set j v))) { s with heap := s.heap.update p (Obj.mapSeq (·.setIfInBounds j u)) } :=
  I.lstUpd hp ho (zmb its n j u) (r.set rv j) (by rw [List.length_set]; exact hz) s.toks
 by_cases h0 : 0 <= k
 ·have hk : k.toNat = j := by
   rw [seqIndex_of h0 h4] at h1;exact Option.some.inj h1
  exact PySem.W.ki_setAt ho h0 (by lia) (by rw [Qh, <- hl]; exact h4) (by rw [hk]; exact ⟨_, I', q⟩)
 ·have hk : (k + (its.toArray.size : Int)).toNat = j := by
   rw [seqIndex_neg (by lia) h3] at h1;rw [Qh, <- hl];exact Option.some.inj h1
  exact PySem.W.ki_setBack ho (by lia) (by rw [Qh, <- hl]; exact h3) (by lia) (by rw [hk]; exact ⟨_, I', q⟩)
theorem zfx (lo hi : Option Int) (n : Nat) : (sliceBounds lo hi none n).1 = ((HT.sIx n 0 lo : Nat) : Int) /\ (sliceBounds lo hi none n).2.1 = ((HT.sIx n n hi : Nat) : Int) /\ (sliceBounds lo hi none n).2.2 = 1 := by
 refine ⟨?_, ?_, rfl⟩
 ·cases lo with
  | none => simp [sliceBounds, HT.sIx]
  | some i =>
   simp only [sliceBounds, HT.sIx, Option.getD_none, show (1 : Int) > 0 by decide, if_true];by_cases h : i < 0
   ·simp only [h, if_true] <;> lia
   ·simp only [h, if_false] <;> lia
 ·cases hi with
  | none => simp [sliceBounds, HT.sIx]
  | some i =>
   simp only [sliceBounds, HT.sIx, Option.getD_none, show (1 : Int) > 0 by decide, if_true];by_cases h : i < 0
   ·simp only [h, if_true] <;> lia
   ·simp only [h, if_false] <;> lia
theorem zdm (its : List Value) (lo hi : Option Int) : slicePick its.toArray lo hi none = ((its.drop (HT.sIx its.length 0 lo)).take (HT.sIx its.length its.length hi - HT.sIx its.length 0 lo)).toArray := by
 obtain ⟨h1, h2, h3⟩ := zfx lo hi its.toArray.size;unfold slicePick;rw [h1, h2, h3];simp only [sliceRange_one, pick_run, Qh] <;> rfl
def zGl (K : PySem.W.Frag) : V -> Option Int -> Option Int -> Hp -> VK -> Prop := fun x lo hi H Q => ∃ a xs, x = .ref a /\ SqL K H a xs /\ ∀ p, H p = none -> Q (.ref p) (upd H p (.lst (zbh xs lo hi)))
theorem zxq : SlR X (zGl X.K) := by
 intro pins s σ H x v vl vu lo hi sl Q I rx hs pl pu h;obtain ⟨a, xs, rfl, hx, q⟩ := h;cases rx
 obtain ⟨its, r, ht, hz⟩ := I.list hx;have hlen := r.length;refine ⟨"list", _, slot_list_getitem.lookup, ht.isList.typeIs, ?_⟩;refine wpAny_getItem_list_slice ht.isList hs pl pu .none (by simp) ?_ (by rw [Qh] <;> lia);rw [zdm, <- hlen];refine ⟨.ref s.heap.objs.size, _, I.laid (t' := s.toks) (o := .lst (zbh xs lo hi)) (fun b ob q => Qz _ q) (Qw _) ?_, rfl, q _ (I.hok.fresh (Qw _))⟩;exact ⟨Jx (zan xs lo hi) hz, _, 0, (r.drop (HT.sIx xs.length 0 lo)).take (HT.sIx xs.length xs.length hi - HT.sIx xs.length 0 lo), Qb _ rfl⟩
def j5 : V -> Bool
 | .non => true
 | .bl _ => true
 | .int _ => true
 | .str _ => true
 | _ => false
def eqV : V -> V -> Bool
 | .non, .non => true
 | .bl a, .bl b => a == b
 | .bl a, .int b => (if a then 1 else 0) == b
 | .int a, .bl b => a == (if b then 1 else 0)
 | .int a, .int b => a == b
 | .str a, .str b => a == b
 | _, _ => false
theorem znj {A : Around} {s : Shared} {y x : V} {u v : Value} (ry : RelV y u) (rx : RelV x v) (fy : j5 y = true) (fx : j5 x = true) : SeqAt.EqAt A s u v (eqV y x) := by
 cases y with
 | non =>
  cases ry
  cases x with
  | non => cases rx; exact SeqAt.EqAt.same _
  | bl b => cases rx; exact SeqAt.EqAt.none_bool b
  | int b => obtain ⟨t, rfl⟩ := rx; exact SeqAt.EqAt.none_int b t
  | str b => obtain ⟨t, rfl⟩ := rx; exact SeqAt.EqAt.none_str b t
  | _ => exact absurd (show false = true from fx) Q1
 | bl a =>
  cases ry
  cases x with
  | non => cases rx; exact SeqAt.EqAt.bool_none a
  | bl b => cases rx; exact SeqAt.EqAt.bool_bool a b
  | int b => obtain ⟨t, rfl⟩ := rx; exact SeqAt.EqAt.bool_int a b t
  | str b => obtain ⟨t, rfl⟩ := rx; exact SeqAt.EqAt.bool_str a b t
  | _ => exact absurd (show false = true from fx) Q1
 | int a =>
  obtain ⟨t', rfl⟩ := ry;cases x with
  | non => cases rx; exact SeqAt.EqAt.int_none a t'
  | bl b => cases rx; exact SeqAt.EqAt.int_bool a t' b
  | int b => obtain ⟨t, rfl⟩ := rx; exact SeqAt.EqAt.int_int a t' b t
  | str b => obtain ⟨t, rfl⟩ := rx; exact SeqAt.EqAt.int_str a t' b t
  | _ => exact absurd (show false = true from fx) Q1
 | str a =>
  obtain ⟨t', rfl⟩ := ry;cases x with
  | non => cases rx; exact SeqAt.EqAt.str_none a t'
  | bl b => cases rx; exact SeqAt.EqAt.str_bool a t' b
  | int b => obtain ⟨t, rfl⟩ := rx; exact SeqAt.EqAt.str_int a t' b t
  | str b => obtain ⟨t, rfl⟩ := rx; exact SeqAt.EqAt.str_str a t' b t
  | _ => exact absurd (show false = true from fx) Q1
 | _ => exact absurd (show false = true from fy) Q1
def eqU (x : V) (u : Value) : Bool := match u with
 | .none => eqV .non x
 | .bool b => eqV (.bl b) x
 | .int i _ => eqV (.int i) x
 | .str z _ => eqV (.str z) x
 | _ => false
theorem zwl {x y : V} {u : Value} (r : RelV y u) (f : j5 y = true) : eqU x u = eqV y x := by
 cases y with
 | non => cases r; rfl
 | bl b => cases r; rfl
 | int i => obtain ⟨t, rfl⟩ := r; rfl
 | str z => obtain ⟨t, rfl⟩ := r; rfl
 | _ => exact absurd (show false = true from f) Q1
theorem hU {x : V} : ∀ {xs : List V} {us : List Value}, Vals xs us -> xs.all j5 = true -> us.any (eqU x) = xs.any fun y => eqV y x
 | _, _, .nil, _ => rfl
 | y :: xs, u :: us, .cons r t, f => by
  rw [List.all_cons, Q5] at f;rw [List.any_cons, List.any_cons, zwl r f.1, hU t f.2]
theorem qW {A : Around} {s : Shared} {x : V} {v : Value} (rx : RelV x v) (fx : j5 x = true) : ∀ {xs : List V} {us : List Value}, Vals xs us -> xs.all j5 = true -> ∀ u ∈ us, SeqAt.EqAt A s u v (eqU x u)
 | _, _, .nil, _ => fun u hu => by cases hu
 | y :: xs, u :: us, .cons r t, f => fun u' hu => by
  rw [List.all_cons, Q5] at f;rcases Qs.mp hu with rfl | hu
  ·rw [zwl r f.1]; exact znj r rx f.1 fx
  ·exact qW rx fx t f.2 u' hu
def inV (x : V) (xs : List V) : Bool := xs.any fun y => eqV y x
def rIn (K : PySem.W.Frag) (neg : Bool) : R2 := fun x y H Q => ∃ p xs, y = .ref p /\ (SqL K H p xs \/ SqT K H p xs) /\ j5 x = true /\ xs.all j5 = true /\ Q (.bl (if neg then !inV x xs else inV x xs)) H
theorem zfa : OpR X (compareOp .In) (rIn X.K false) := by
 intro pins s σ H x y v u Q I rx ry h;obtain ⟨p, xs, rfl, hq, fx, fs, q⟩ := h;cases ry
 rcases hq with hq | hq
 ·obtain ⟨its, r, pl, hz⟩ := I.list hq;refine SeqAt.in_listAt (eqU x) pl.isList (fun w hw => qW rx fx r fs w (by simpa using hw)) ⟨.bl _, H, I, rfl, ?_⟩;rw [show its.toArray.any (eqU x) = its.any (eqU x) by simp, hU r fs];exact q
 ·obtain ⟨its, r, pl, hz⟩ := I.tuple hq;refine SeqAt.in_tupleAt (eqU x) pl (fun w hw => qW rx fx r fs w (by simpa using hw)) ⟨.bl _, H, I, rfl, ?_⟩;rw [show its.toArray.any (eqU x) = its.any (eqU x) by simp, hU r fs];exact q
theorem j9 : OpR X (compareOp .NotIn) (rIn X.K true) := by
 intro pins s σ H x y v u Q I rx ry h;obtain ⟨p, xs, rfl, hq, fx, fs, q⟩ := h;cases ry
 rcases hq with hq | hq
 ·obtain ⟨its, r, pl, hz⟩ := I.list hq;refine SeqAt.notIn_listAt (eqU x) pl.isList (fun w hw => qW rx fx r fs w (by simpa using hw)) ⟨.bl _, H, I, rfl, ?_⟩;rw [show its.toArray.any (eqU x) = its.any (eqU x) by simp, hU r fs];exact q
 ·obtain ⟨its, r, pl, hz⟩ := I.tuple hq;refine SeqAt.notIn_tupleAt (eqU x) pl (fun w hw => qW rx fx r fs w (by simpa using hw)) ⟨.bl _, H, I, rfl, ?_⟩;rw [show its.toArray.any (eqU x) = its.any (eqU x) by simp, hU r fs];exact q
theorem zgf : xE X (.builtin "len") (fun xs H Q => ∃ p ys, xs = [.ref p] /\ (SqL X.K H p ys \/ SqT X.K H p ys) /\ Q (.int ys.length) H) := by
 intro pins s σ H xs us Q I r h;obtain ⟨p, ys, rfl, hq, q⟩ := h;obtain ⟨u, rfl, rx⟩ := zro r;cases rx
 have hn := zds;rcases hq with hq | hq
 ·obtain ⟨its, r', pl, hz⟩ := I.list hq;have hlen := r'.length;exact Calls.call_len_list pl.isList (by simp only [Qh] <;> lia) ⟨.int ys.length, H, I.tok _, ⟨s.toks + 1, by rw [Qh, hlen]⟩, q⟩
 ·obtain ⟨its, r', pl, hz⟩ := I.tuple hq;have hlen := r'.length;exact len_tuple pl (by simp only [Qh] <;> lia) ⟨.int ys.length, H, I.tok _, ⟨s.toks + 1, by rw [Qh, hlen]⟩, q⟩
theorem zge : xE X (.type "list") (fun xs H Q => ∃ p ys, xs = [.ref p] /\ (SqL X.K H p ys \/ SqT X.K H p ys) /\ ∀ l, H l = none -> Q (.ref l) (upd H l (.lst ys))) := by
 intro pins s σ H xs us Q I r h;obtain ⟨p, ys, rfl, hq, q⟩ := h;obtain ⟨u, rfl, rx⟩ := zro r;cases rx
 have fin : ∀ (its : List Value), Vals ys its -> ys.length <= sizeLine -> ∀ (h' : Heap) (c' : Nat), (∀ b o', s.heap.get? b = some o' -> h'.get? b = some o') ->
   h'.get? s.heap.objs.size = some { cls := .type "list", dict := none, data := .seq its.toArray c', slots := #[] } -> EP X pins σ Q (.ref s.heap.objs.size) { s with heap := h' } := fun its r' hz h' c' kp e =>
  ⟨.ref s.heap.objs.size, _, I.laid (t' := s.toks) kp (Qw _) (show ObjOk X.prog X.w _ h' _ (.lst ys) from ⟨hz, its, c', r', e⟩), rfl, q _ (I.hok.fresh (Qw _))⟩
 rcases hq with hq | hq
 ·obtain ⟨its, r', pl, hz⟩ := I.list hq;have hlen := r'.length;obtain ⟨o, ho, hc, n, hd⟩ := pl.isList;exact call_list_seq p (.inl rfl) ho hc hd (fun h' c' kp e => fin its r' hz h' c' kp e) (by simp only [Qh] <;> lia)
 ·obtain ⟨its, r', pl, hz⟩ := I.tuple hq;have hlen := r'.length;obtain ⟨o, ho, hc, n, hd⟩ := pl;exact call_list_seq p (.inr rfl) ho hc hd (fun h' c' kp e => fin its r' hz h' c' kp e) (by simp only [Qh] <;> lia)
theorem zdw : xE X (.type "tuple") (fun xs H Q => ∃ p ys, xs = [.ref p] /\ ((SqL X.K H p ys /\ ∀ l, H l = none -> Q (.ref l) (upd H l (.tup ys))) \/ (SqT X.K H p ys /\ Q (.ref p) H))) := by
 intro pins s σ H xs us Q I r h;obtain ⟨p, ys, rfl, h⟩ := h;obtain ⟨u, rfl, rx⟩ := zro r;cases rx
 rcases h with ⟨hq, q⟩ | ⟨hq, q⟩
 ·obtain ⟨its, r', pl, hz⟩ := I.list hq;have hlen := r'.length;refine call_tuple_list pl.isList (fun h' kp => ?_) (by simp only [Qh] <;> lia);have I1 : Inv X pins σ H { s with heap := h' } := I.kept (t' := s.toks) kp;have I2 : Inv X pins σ (upd H h'.objs.size (.tup ys)) { s with heap := h'.push { cls := .type "tuple", data := .seq its.toArray } } :=
   I1.laid (t' := s.toks) (fun b o e => Qz _ e) (Qw _) (show ObjOk X.prog X.w _ _ _ (.tup ys) from ⟨hz, its, r', IsTup.new _ _⟩)
  exact ⟨.ref h'.objs.size, _, I2, rfl, q _ (I1.hok.fresh (Qw _))⟩
 ·obtain ⟨its, r', pl, hz⟩ := I.tuple hq;exact call_tuple_same pl ⟨.ref p, H, I, rfl, q⟩
def tyV (K : PySem.W.Frag) (T : String) (x : V) (H : Hp) : Prop := match x with
 | .str _ => T = "str"
 | .int _ => T = "int"
 | .ref p => (T = "list" /\ ∃ xs, SqL K H p xs) \/ (T = "tuple" /\ ∃ o, K.lookup p = some o /\ o.cls = .type "tuple" /\ o.dict = none) \/
   (T = "dict" /\ ((∃ kvs, H p = some (.dK kvs)) \/ ∃ kvs, H p = some (.dT kvs))) \/ (T = "set" /\ ∃ S n, H p = some (.set S n))
 | _ => False
theorem zve {pins : List (Addr × Obj)} {σ : St} {H : Hp} {s : Shared} {T : String} {x : V} {v : Value} (I : Inv X pins σ H s) (r : RelV x v) (ty : tyV X.K T x H) :
  s.TypeIs v T /\ ∀ a, v = .ref a -> ∃ ob, s.heap.get? a = some ob /\ ob.dict = none := by
 cases x with
 | str z =>
  obtain ⟨t, rfl⟩ := r;cases (show T = "str" from ty)
  exact ⟨typeIs_str s z t, fun _ e => nomatch e⟩
 | int i =>
  obtain ⟨t, rfl⟩ := r;cases (show T = "int" from ty)
  exact ⟨typeIs_int s i t, fun _ e => nomatch e⟩
 | ref p =>
  cases r
  rcases ty with ⟨rfl, xs, hq⟩ | ⟨rfl, o, hk, hc, hd⟩ | ⟨rfl, hk⟩ | ⟨rfl, S, n, hk⟩
  ·obtain ⟨its, _, pl, _⟩ := I.list hq;refine ⟨pl.isList.typeIs, fun a e => ?_⟩;cases e
   obtain ⟨o, n, e, c, hd, _⟩ := pl;exact ⟨o, e, hd⟩
  ·refine ⟨⟨o, I.kIn p o hk, hc⟩, fun a e => ?_⟩;cases e
   exact ⟨o, I.kIn _ o hk, hd⟩
  ·have z : ∃ o, s.heap.get? p = some o /\ o.ExactDict := by
    rcases hk with ⟨kvs, hk⟩ | ⟨kvs, hk⟩
    ·obtain ⟨_, _, _, _, o, _, _, e, ex, _⟩ := I.hok p _ hk;exact ⟨o, e, ex⟩
    ·obtain ⟨_, _, _, _, o, _, _, e, ex, _⟩ := I.hok p _ hk;exact ⟨o, e, ex⟩
   obtain ⟨o, e, ex⟩ := z;refine ⟨⟨o, e, ex.1⟩, fun a e2 => ?_⟩;cases e2
   exact ⟨o, e, ex.2.1⟩
  ·obtain ⟨o, _, _, _, e, ex, _⟩ := I.hok p _ hk;refine ⟨⟨o, e, ex.1⟩, fun a e2 => ?_⟩;cases e2
   exact ⟨o, e, ex.2.1⟩
 | _ => exact False.elim ty
def zHe (K : PySem.W.Frag) (T : String) (r : V -> List V -> Hp -> VK -> Prop) (to : TE) : TE := fun σ H Q => to σ H fun x H1 => tyV K T x H1 /\ r x [] H1 Q
def tBM (K : PySem.W.Frag) (T : String) (r : V -> List V -> Hp -> VK -> Prop) (to : TE) (t : TA) : TE := fun σ H Q => to σ H fun x H1 => tyV K T x H1 /\ t σ H1 fun xs H2 => r x xs H2 Q
variable {o e : Expr} {es : List Expr} {to : TE} {t : TA} {name : Str} {apos cpos : Pos} {T id : String} {r : V -> List V -> Hp -> VK -> Prop}
theorem zvv (pa : PlainAttrs T) (slot : Slot T name id) (hty : typeOf (.builtin id) = pure (.type "method_descriptor")) (hm : MtR X id r) (ho : PE X o to)
  (hbase : attributeBase o name X.env (eval o X.env) = eval o X.env := by rfl) (hline : (apos.endLine == cpos.line) = true := by rfl) : PE X (.Call (.Attribute o name apos) [] [] cpos) (zHe X.K T r to) := by
 intro pins s σ H Q I h;refine wpAny_Call_method0_late hbase hline (thn (ho pins s σ H _ I h) fun v s1 ⟨x, H1, I1, r1, ty, q1⟩ => ?_);obtain ⟨h1, h2⟩ := zve I1 r1 ty;exact ⟨T, id, pa, slot, hty, h1, h2, Calls.callWith_builtin rfl (PySem.evalArgs_none (hm pins s1 σ H1 x [] v [] Q I1 r1 .nil q1))⟩
theorem k5 (pa : PlainAttrs T) (slot : Slot T name id) (hty : typeOf (.builtin id) = pure (.type "method_descriptor")) (hm : MtR X id r) (ho : PE X o to) (ha : PA X (e :: es) t)
  (hbase : attributeBase o name X.env (eval o X.env) = eval o X.env := by rfl)
  (hfew : ((backTo cpos (starEach (e :: es) X.env)).all (fun x => !x.1) && (backToKw cpos (keywordEach [] X.env)).all (fun x => x.1.isSome)
   && decide ((e :: es).length + ([] : List Keyword).length + (if ([] : List Keyword).isEmpty then 0 else 1) < 30)) = true := by rfl)
  (hline : (apos.endLine == cpos.line) = true := by rfl) (hs : starEach (e :: es) X.env = (false, eval e X.env) :: starEach es X.env := by rfl) (hplain : (backTo cpos (starEach es X.env)).any (·.1) = false := by rfl) :
  PE X (.Call (.Attribute o name apos) (e :: es) [] cpos) (tBM X.K T r to t) := by
 intro pins s σ H Q I h;refine wpAny_Call_method_late hbase hfew hline rfl (thn (ho pins s σ H _ I h) fun v s1 ⟨x, H1, I1, r1, ty, q1⟩ => ?_);obtain ⟨h1, h2⟩ := zve I1 r1 ty;refine ⟨T, id, pa, slot, hty, h1, h2, ?_⟩;have hA := ha cpos pins s1 σ H1 _ I1 q1;rw [hs] at hA ⊢;refine Calls.callWith_builtin (by show (false || (backTo cpos (starEach es X.env)).any (·.1)) = false; rw [hplain] <;> rfl) (Calls.evalArgs_plain ?_);exact thn hA fun us s2 ⟨vs, H2, I2, r2, q2⟩ => hm pins s2 σ H2 x vs v us Q I2 r1 r2 q2
/- xs.append(e), list.index on a module's tuple .. are MtR facts of 06m -/
end
def MtM (X : Cx) (id : String) (r : V -> List V -> Hp -> VK -> Prop) : Prop :=
 ∀ (pins : List (Addr × Obj)) (s : Shared) (σ : St) (H : Hp) (x : V) (xs : List V) (v : Value) (us : List Value) (Q : VK), Inv X pins σ H s -> RelV x v -> Vals xs us -> r x xs H Q ->
  wpAny (model X.prog X.w) X.A (call (.builtin id) (v :: us)) (EP X pins σ Q) X.xe s
theorem Vals.one : ∀ {x : V} {us : List Value}, Vals [x] us -> ∃ u, us = [u] /\ RelV x u
 | _, _, .cons r .nil => ⟨_, rfl, r⟩
theorem Vals.two : ∀ {x y : V} {us : List Value}, Vals [x, y] us -> ∃ u v, us = [u, v] /\ RelV x u /\ RelV y v := by
 intro x y us h;cases h with
 | cons r h => cases h with
  | cons q h => cases h; exact ⟨_, _, rfl, r, q⟩
theorem Vals.zero : ∀ {us : List Value}, Vals [] us -> us = []
 | _, .nil => rfl
theorem Vals.rep {xs : List V} {us : List Value} (h : Vals xs us) : ∀ k : Nat, Vals (List.replicate k xs).flatten (List.replicate k us).flatten
 | 0 => .nil
 | k + 1 => by
  rw [Wp, Wp, List.flatten_cons, List.flatten_cons];exact Vals.append h (Vals.rep h k)
theorem zfg (its : List Value) : ∀ (k : Nat) (acc : List Value),
  List.foldl (fun x1 x2 => x1 ++ x2) acc.toArray (List.replicate k its.toArray) = (acc ++ (List.replicate k its).flatten).toArray
 | 0, acc => by simp
 | k + 1, acc => by
  have e : acc.toArray ++ its.toArray = (acc ++ its).toArray := by simp
  have e2 : (acc ++ its) ++ (List.replicate k its).flatten = acc ++ (List.replicate (k + 1) its).flatten := by
   rw [Wp, List.flatten_cons, Jc]
  rw [<- e2, <- zfg its k (acc ++ its), <- e, Wp, List.foldl_cons]
section
variable {X : Cx} {pins : List (Addr × Obj)} {σ : St} {H : Hp} {s : Shared} {l b : Addr} {xs ys zs : List V}
theorem Inv.lset {its its' : List Value} {n : Nat} {f : Array Value -> Array Value} {t' : Nat} (I : Inv X pins σ H s) (hH : H l = some (.lst xs))
  (e : s.heap.get? l = some { cls := .type "list", data := .seq its.toArray n }) (hf : f its.toArray = its'.toArray) (hv : Vals ys its') (hz : ys.length <= sizeLine) :
  Inv X pins σ (upd H l (.lst ys)) { s with heap := s.heap.update l (Obj.mapSeq f), toks := t' } := by
 have q := PySem.IsL.update e f;rw [hf] at q;refine I.write (x := l) (e := l) (by rw [hH]; exact trivial) (.inl rfl) (fun b' u hb hu => (Wd s.heap (Obj.mapSeq f) (Ne.symm hb)).trans hu) ⟨_, q⟩ ?_;exact ⟨hz, its', _, hv, q⟩
theorem Inv.lnew {its : List Value} {t' : Nat} (I : Inv X pins σ H s) (hv : Vals ys its) (hz : ys.length <= sizeLine) :
  Inv X pins σ (upd H s.heap.objs.size (.lst ys)) { s with heap := s.heap.push { cls := .type "list", data := .seq its.toArray }, toks := t' } :=
 I.laid (fun _ _ q => Qz _ q) (Qw _) ⟨hz, its, 0, hv, Qb _ rfl⟩
theorem Inv.fresh (I : Inv X pins σ H s) : H s.heap.objs.size = none := I.hok.fresh (Qw _)
theorem Inv.lstM (I : Inv X pins σ H s) (hH : H l = some (.lst xs)) : xs.length <= sizeLine /\ ∃ (its : List Value) (n : Nat), Vals xs its /\ xs.length = its.length /\ s.heap.get? l = some { cls := .type "list", data := .seq its.toArray n } := by
 obtain ⟨z, its, n, r, e⟩ := I.hok l _ hH;exact ⟨z, its, n, r, r.length, e⟩
theorem zki {n : Nat} (h : n <= sizeLine) : Builtin.List.listTooLong n = false := by
 unfold Builtin.List.listTooLong;exact Q8 (by lia)
end
section
variable {X : Cx}
def zye : V -> List V -> Hp -> VK -> Prop := fun x vs H Q => ∃ l xs y, x = .ref l /\ vs = [y] /\ H l = some (.lst xs) /\ xs.length < sizeLine /\ Q .non (upd H l (.lst (xs ++ [y])))
theorem zfc : MtM X "list.append" zye := by
 intro pins s σ H x vs v us Q I rx rv h;obtain ⟨l, xs, y, rfl, rfl, hH, hz, q⟩ := h;cases rx
 obtain ⟨u, rfl, ru⟩ := rv.one;obtain ⟨z, its, n, r, hl, e⟩ := I.lstM hH;refine call_meets F.slot_list_append ⟨_, e, rfl⟩ F.entry_list_append (F.args_list_append_2 _ _) (PySem.list_append l its.toArray n u (by rw [Qh]; lia)) ⟨e, ?_⟩;refine ⟨.non, _, I.lset (its' := its ++ [u]) hH e (by simp) (r.append (.cons ru .nil)) ?_, rfl, q⟩;rw [Q3, List.length_singleton];lia
def zoc : V -> List V -> Hp -> VK -> Prop := fun x vs H Q => ∃ l b xs zs, x = .ref l /\ vs = [.ref b] /\ H l = some (.lst xs) /\ H b = some (.lst zs) /\ xs.length + zs.length <= sizeLine /\ Q .non (upd H l (.lst (xs ++ zs)))
theorem vW : MtM X "list.extend" zoc := by
 intro pins s σ H x vs v us Q I rx rv h;obtain ⟨l, b, xs, zs, rfl, rfl, hH, hB, hz, q⟩ := h;cases rx
 obtain ⟨u, rfl, ru⟩ := rv.one;cases ru
 obtain ⟨z, its, n, r, hl, e⟩ := I.lstM hH;obtain ⟨z2, its2, n2, r2, hl2, e2⟩ := I.lstM hB;have hsz : its.toArray.size + its2.toArray.size <= sizeLine := by rw [Qh, Qh]; lia
 have hlong : ¬ (!its.toArray.isEmpty && Builtin.List.listTooLong (its.toArray.size + its2.toArray.size)) = true := by
  rw [zki hsz, Bool.and_false];exact Q1
 refine call_meets F.slot_list_extend ⟨_, e, rfl⟩ F.entry_list_extend (F.args_list_extend_2 _ _)
  (AutoSeq1.list_extend_list_list_0 l its.toArray n b its2.toArray n2 hlong (by rw [Qh]; lia) (by lia)) ⟨e, e2, ?_⟩
 refine ⟨.non, _, I.lset (its' := its ++ its2) hH e (by simp) (r.append r2) ?_, rfl, q⟩;rw [Q3];lia
def zHk : R2 := fun x y H Q => ∃ l b xs zs, x = .ref l /\ y = .ref b /\ H l = some (.lst xs) /\ H b = some (.lst zs) /\ xs.length + zs.length <= sizeLine /\ ∀ p, H p = none -> Q (.ref p) (upd H p (.lst (xs ++ zs)))
theorem zDd : OpR X (binaryOp .Add) zHk := by
 intro pins s σ H x y v u Q I rx ry h;obtain ⟨l, b, xs, zs, rfl, rfl, hH, hB, hz, q⟩ := h;cases rx
 cases ry
 obtain ⟨z, its, n, r, hl, e⟩ := I.lstM hH;obtain ⟨z2, its2, n2, r2, hl2, e2⟩ := I.lstM hB;refine PySem.P.add_list e e2 ?_ (by rw [Qh, Qh]; lia);have ea : its.toArray ++ its2.toArray = (its ++ its2).toArray := by simp
 rw [ea];exact ⟨.ref _, _, I.lnew (t' := s.toks) (r.append r2) (by rw [Q3]; lia), rfl, q _ I.fresh⟩
def zHj : R2 := fun x y H Q => ∃ l k xs, x = .ref l /\ y = .int k /\ H l = some (.lst xs) /\ -(2 ^ 63) <= k /\ k < 2 ^ 63 /\ xs.length * k.toNat <= sizeLine /\
 ∀ p, H p = none -> Q (.ref p) (upd H p (.lst (List.replicate k.toNat xs).flatten))
theorem zyr {α : Type} (xs : List α) (k : Nat) : (List.replicate k xs).flatten.length = k * xs.length := by
 induction k with
 | zero => simp
 | succ k ih => rw [Wp, List.flatten_cons, Q3, ih, Nat.succ_mul, Nat.add_comm]
theorem zCz : OpR X (binaryOp .Mult) zHj := by
 intro pins s σ H x y v u Q I rx ry h;obtain ⟨l, k, xs, rfl, rfl, hH, h1, h2, hz, q⟩ := h;cases rx
 obtain ⟨t, rfl⟩ := ry;obtain ⟨z, its, n, r, hl, e⟩ := I.lstM hH;have hlen : its.toArray.size * k.toNat <= sizeLine := by rw [Qh, <- hl]; exact hz
 have hcap : ¬ its.toArray.size * k.toNat > (2 ^ 63 - 1) / 8 := by
  have : (sizeLine : Nat) <= (2 ^ 63 - 1) / 8 := by decide
  lia
 have hfit : ¬ (!Builtin.List.listFitsIndex k) = true := by
  rw [fitsIndex_both h1 h2];exact Q1
 have hlong : ¬ Builtin.List.listTooLong (its.toArray.size * k.toNat) = true := by
  rw [zki hlen];exact Q1
 have hnew : List.foldl (fun x1 x2 => x1 ++ x2) #[] (List.replicate (if its.toArray.isEmpty = true then 0 else k.toNat) its.toArray) = (List.replicate k.toNat its).flatten.toArray := by
  have f0 : ∀ m : Nat, List.foldl (fun x1 x2 => x1 ++ x2) #[] (List.replicate m its.toArray) = (List.replicate m its).flatten.toArray := fun m => by
   have := zfg its m [];rw [Wf] at this;exact this
  rw [f0];cases its with
  | nil => simp
  | cons a r' => rw [if_neg (by simp)]
 refine wpAny_binaryOp_repeat_ref (T := "list") (U := "int") (by decide) ⟨_, e, rfl⟩ (fun s' => typeIs_int s' k t) noFill_list_mul F.fills_int_mul F.slot_int_rmul repeat_list F.slot_int_index.lookup
  (call_meets F.slot_int_rmul (typeIs_int s k t) F.entry_int_rmul (F.args_int_rmul_2 _ _) (int___rmul___int_list k t l its.toArray n)
   ⟨e, rfl, ⟨_, e, rfl⟩, call_meets F.slot_list_mul ⟨_, e, rfl⟩ F.entry_list_mul (F.args_list_mul_2 _ _) (AutoListH.list___mul___list_int_3 l its.toArray n k t hfit hcap hlong) ⟨e, ?_⟩⟩)
 rw [hnew];exact ⟨.ref _, _, I.lnew (t' := s.toks) (r.rep k.toNat) (by rw [zyr, Nat.mul_comm]; exact hz), rfl, q _ I.fresh⟩
end
section
variable {prog : Program} {w : World} {A : Around} {E : Value -> Shared -> Prop} {s : Shared}
set_option maxRecDepth 100000 in
end
section
variable {X : Cx}
end
end L2
namespace Att
open PySem PySem.W PySem.Calls PyProof.Rows
theorem zaw {P : Params} {h : Heap} : ∀ (ns : List Int) (vs : List Value), WellAll P h vs (ns.map WData.int) -> IntsAre vs ns := by
 intro ns
 induction ns with
 | nil =>
  intro vs w;rw [List.map_nil] at w;cases w
  exact .nil
 | cons n ns ih =>
  intro vs w;rw [Qm] at w;cases w with
  | cons a b =>
   cases a
   exact .cons _ _ (ih _ b)
theorem zpx {l : OpenLaw} {n : Nat} (hn : l.most = some n) {P : Params} {h : Heap} {args : List WData} {vals : List Value}
  (hpre : l.row.toRowW.claim.pre args = true) (hwl : WellAll P h vals args) :
  ∃ a vs ns, vals = [Value.ref a] /\ args = [WData.list (ns.map WData.int)] /\ h.get? a = some { cls := .type "list", data := .seq vs.toArray } /\ IntsAre vs ns /\ ns.length <= n := by
 have hsh : WShape.hasAll [] args [.list .int] = true := (pre_splitW hpre).1;have hc : l.pre.holds [] { args := args } = true := (pre_splitW hpre).2;obtain ⟨d, r, rfl, h1, h2⟩ := hasAllW_cons hsh;obtain rfl := hasAllW_nil h2;obtain ⟨xs, rfl, h3⟩ := hasW_list h1;obtain ⟨ns, rfl⟩ := items_int h3;have hlen : ns.length <= n := by
  unfold OpenLaw.pre at hc;have h4 : (WTm.not (.lt (.lit (.int (n : Int))) (.len (.arg 0)))).holds [] { args := [.list (ns.map .int)] } = true := by
   have h4 := (holds_andW hc).1;rw [hn] at h4;exact h4
  have h5 := condW_of h4 (w_not (w_lt w_lit (w_len_list (w_arg rfl))));rw [Qj] at h5;refine Nat.le_of_not_lt fun q => ?_;have q' : (n : Int) < ((ns.length : Nat) : Int) := by lia
  first
   | (rw [Q2 q'] at h5; exact absurd h5 (by decide))
   | (simp at h5; lia)
 cases hwl with
 | cons w1 w2 =>
  cases w2
  cases w1 with
  | list ho hall => exact ⟨_, _, ns, rfl, rfl, ho, zaw ns _ hall, hlen⟩
theorem zqe (l : OpenLaw) (args : List WData) : l.row.toRowW.claim.post args (.bool true) args = true :=
 postW_of (r := l.row.toRowW) (X := (true == true))
  (show WShape.has [] (.bool true) .bool = true by first | rfl | decide | simp [WShape.has, WShape.arms, WShape.armsAll])
  (show (WTm.eq .res (.lit (.bool true))).value [] { args := args, res := some (.bool true), after := args } = some (.bool (true == true)) from w_eq_bool (w_res rfl) w_lit) rfl
theorem attach_call {l : OpenLaw} {n : Nat} {q : Program} {loose : List Str} {XP : (Str -> Option Value) -> Heap -> Prop} {YP : World -> Heap -> Prop} {d : DefRec}
  (hn : l.most = some n) (hdf : d.params.defaults = [])
  (call : ∀ (w : World) (s₀ s₁ : Shared) (mg mb : Str -> Option Value) (fa : Addr) (o : Obj) (pm cd doc : Value) (a : Addr) (vs : List Value) (ns : List Int),
   Ground q loose [] XP w s₀ mg mb s₁.heap -> YP w s₁.heap ->
   s₁.heap.get? fa = some o -> o.data = .func (docDef d.name d.params d.body d.scope pm cd doc) -> s₁.heap.CodeRec cd d.name -> mg d.name = some (.ref fa) ->
   s₁.heap.get? a = some { cls := .type "list", data := .seq vs.toArray } -> IntsAre vs ns -> ns.length <= n -> s₁.gens = #[] ->
   codeAny (model l.prog w) callerA (.call (.ref fa) ⟨[.ref a], []⟩) (fun r s' => r = .ok (.ret (.bool true)) /\ OldK s₁.heap s'.heap /\ s'.os = s₁.os /\ AllBare s'.gens) s₁) :
  WalkO q loose XP YP l.row.toRowW d [] (fun f vs => PySem.call f vs) := by
 intro w s₀ s₁ mg mb G Y fa o pm cd doc dV kV ho hd hcd hD hmg hg args vals as hpre hlay hrd hwl hlo;obtain rfl : dV = .none := Dflts.none hD hdf;obtain rfl : kV = .none := Dflts.noKw hD;obtain ⟨a, vs, ns, rfl, rfl, hobj, hints, hlen⟩ := zpx hn hpre hwl;refine enter_call (codeAny_mono (call w s₀ s₁ mg mb fa o pm cd doc a vs ns G Y ho (fd_plain hd) hcd hmg hobj hints hlen hg) fun r s' hq => ?_);obtain ⟨rfl, h2, h3, h4⟩ := hq;exact ⟨.inl ⟨.bool true, .bool true, [], rfl, fun _ => rfl, .bool true, zqe l _, fun _ => ⟨List.Pairwise.nil, fun _ hm => (nomatch hm)⟩⟩, h2, h3, h4⟩
section
variable {prog : Program} {w : World} {A : Around} {E : Value -> Shared -> Prop} {s : Shared} {K : Frag}
end
end Att
namespace L2
open PySem PySem.Spec PyProof.Rows
theorem zem : ∀ {vs : List Value} {ns : List Int}, IntsAre vs ns -> Vals (ns.map V.int) vs
 | _, _, .nil => .nil
 | _, _, .cons n t h => .cons ⟨t, rfl⟩ (zem h)
def zEt (H : Hp) : Prop := ∀ b, H b = none \/ ∃ o xs, H b = some (.frz o (.lst xs))
theorem zty {P : Program} {w : World} {K : PySem.W.Frag} {mg mb : Str -> Option Value} {CX : CXT} {k : Nat} {fa a : Addr} {fd : FuncData} {x : Str} {sp : Sp} {s₁ : Shared} {vs : List Value} {ns : List Int}
  (KX : K.In s₁.heap) (hns : s₁.heap.Ns mainGlobals mg) (hb : s₁.heap.Ns builtinsNs mb) (hbb : ∀ x : Str, x ≠ "__name__" -> mb x = bootBuiltins x) (hlim : s₁.heap.NoLimit) (hg : s₁.gens = #[])
  (ha : s₁.heap.get? a = some { cls := .type "list", data := .seq vs.toArray }) (hi : IntsAre vs ns) (hl : ns.length <= sizeLine) (hr : Room k callerA)
  (F : ∀ base : Heap, K.In base -> base.Ns mainGlobals mg -> zhe P w K mg base CX k fa fd [x] sp) (hbind : ∀ (s : Shared) (u : Value), BindsTo s fd ⟨[u], []⟩ [(x, u)])
  (hsp : ∀ H : Hp, zEt H -> SqL K H a (ns.map V.int) -> sp [.ref a] H (fun v _ => v = .bl true) fun _ _ _ => False)
  (hCX : ∀ H e s', CX [] H s₁ (fun _ _ _ => False) e s' -> False) :
  codeAny (model P w) callerA (.call (.ref fa) ⟨[.ref a], []⟩) (fun r s' => r = .ok (.ret (.bool true)) /\ OldK s₁.heap s'.heap /\ s'.os = s₁.os /\ AllBare s'.gens) s₁ := by
 have rv := zem hi;have lenV := hi.length;have core : ∀ H : Hp, zEt H -> SqL K H a (ns.map V.int) -> HOk P w H s₁.heap -> (∀ b, H b ≠ none -> b = a) -> (H a ≠ none -> K.lookup a = none) ->
   codeAny (model P w) callerA (.call (.ref fa) ⟨[.ref a], []⟩) (fun r s' => r = .ok (.ret (.bool true)) /\ OldK s₁.heap s'.heap /\ s'.os = s₁.os /\ AllBare s'.gens) s₁ := by
  intro H hO hS hok hA hK;have base_of : ∀ {b : Addr} {o : Obj}, s₁.heap.get? b = some o -> H b = none -> (zmh s₁.heap H).get? b = some o := fun e n => zuc e n;have noA : ∀ {b : Addr} {o : Obj} {es : Array DictEntry} {ep : Nat}, s₁.heap.get? b = some o -> o.data = .dict es ep -> H b = none := fun {b o es ep} e d => by
   cases q : H b with
   | none => rfl
   | some u =>
    have e' : b = a := hA b (by rw [q]; simp);subst e';rw [ha] at e; cases e;have d' : Data.seq vs.toArray _ = Data.dict es ep := d;cases d'
  have nsK : ∀ {b : Addr} {m : Str -> Option Value}, s₁.heap.Ns b m -> (zmh s₁.heap H).Ns b m := fun {b m} ⟨o, es, ep, e, d, r⟩ => ⟨o, es, ep, base_of e (noA e d), d, r⟩;have hKb : K.In (zmh s₁.heap H) := fun b o e => base_of (KX b o e) (by
   cases q : H b with
   | none => rfl
   | some u =>
    have e' : b = a := hA b (by rw [q]; simp);subst e';rw [hK (by rw [q]; simp)] at e; cases e)
  have hM : Mod K mg (zmh s₁.heap H) := ⟨hKb, nsK hns, ⟨mb, nsK hb, hbb⟩, let ⟨mc, h1, h2⟩ := hlim; ⟨mc, nsK h1, h2⟩⟩;have e0 : zBh P w K mg (zmh s₁.heap H) callerA [] s₁ H := ⟨rfl, hM, fun b o e => zyk e, Nat.le_of_eq (zqs _ _), trivial, fun b hb => absurd (show b ∈ ([] : List Addr) from hb) (by simp), hok, .of_eq hg⟩;refine codeAny_mono ((F _ hKb (nsK hns)).run callerA [] s₁ H ⟨[.ref a], []⟩ [.ref a] [.ref a] _ _ hr e0 (hbind s₁ (.ref a)) (.cons rfl .nil) (hsp H hO hS)) fun r s' h => ?_;cases r with
  | error e => exact (hCX H e s' h).elim
  | ok fl =>
   cases fl with
   | next => exact False.elim h
   | brk => exact False.elim h
   | cont => exact False.elim h
   | ret u =>
    obtain ⟨v, H', os, bare, un, hok', r', q⟩ := h;have q' : v = .bl true := q;subst q';obtain rfl : u = Value.bool true := r';refine ⟨rfl, OldK.of_keep fun b o e => ?_, os, bare⟩;cases q : H b with
    | none => exact un.keep b o e q (by intro z; exact absurd (show b ∈ ([] : List Addr) from z) (by simp)) (by simp)
    | some u =>
     rcases hO b with z | ⟨ob, xs, z⟩
     ·rw [q] at z; cases z
     ·have z2 := un.frzs b ob _ z;obtain ⟨e1, _⟩ := hok b _ z;obtain ⟨e2, _⟩ := hok' b _ z2;rw [e] at e1; cases e1;exact e2
 cases hk : K.lookup a with
 | some o =>
  have e := KX a o hk;rw [ha] at e;cases e
  refine core (fun _ => none) (fun _ => .inl rfl) (.inr ⟨_, vs.toArray, _, hk, rfl, rfl, rfl, by rw [Qh, lenV]; exact hl, by simpa using rv⟩) (fun b u z => by have z' : (none : Option HO) = some u := z; cases z') (fun b z => absurd rfl z) fun z => absurd rfl z
 | none =>
  refine core (fun b => if b = a then some (.frz { cls := .type "list", data := .seq vs.toArray } (.lst (ns.map V.int))) else none) (fun b => ?_) (.inl (.inr ⟨{ cls := .type "list", data := .seq vs.toArray }, if_pos rfl⟩)) (fun b u z => ?_) (fun b z => ?_) fun _ => hk
  ·by_cases hb : b = a
   ·exact .inr ⟨_, _, if_pos hb⟩
   ·exact .inl (if_neg hb)
  ·by_cases hb : b = a
   ·have z' := (if_pos hb).symm.trans z;cases z'
    subst hb;exact ⟨ha, by rw [Qj]; exact hl, vs, _, rv, ha⟩
   ·have z' := (if_neg hb).symm.trans z;cases z'
  ·by_cases hb : b = a
   ·exact hb
   ·exact absurd (if_neg hb) z
abbrev KOf {K : PySem.W.Frag} {h : Heap} (_ : K.In h) : PySem.W.Frag := K
theorem walk_of {l : PySem.W.OpenLaw} {n k : Nat} {q : Program} {loose : List Str} {XP : (Str -> Option Value) -> Heap -> Prop} {YP : World -> Heap -> Prop} {d : DefRec} {K : Params -> PySem.W.Frag} {CX : World -> CXT} {sp : World -> Sp} {x : Str}
  (hn : l.most = some n) (hn2 : n <= sizeLine) (hdf : d.params.defaults = []) (hr : Room k callerA)
  (hY : ∀ (w : World) (h : Heap), YP w h -> (K w.params).In h)
  (F : ∀ (w : World) (mg : Str -> Option Value) (fa : Addr) (h : Heap), (K w.params).In h -> h.Ns mainGlobals mg -> mg d.name = some (.ref fa) ->
   ∃ fd : FuncData, (∀ (s : Shared) (u : Value), BindsTo s fd ⟨[u], []⟩ [(x, u)]) /\
    ∀ base : Heap, (K w.params).In base -> base.Ns mainGlobals mg -> zhe l.prog w (K w.params) mg base (CX w) k fa fd [x] (sp w))
  (hsp : ∀ (w : World) (H : Hp) (a : Addr) (ns : List Int), ns.length <= n -> zEt H -> SqL (K w.params) H a (ns.map V.int) -> sp w [.ref a] H (fun v _ => v = .bl true) fun _ _ _ => False)
  (hCX : ∀ (w : World) (H : Hp) (s : Shared) (e : Value) (s' : Shared), CX w [] H s (fun _ _ _ => False) e s' -> False) :
  PySem.W.WalkO q loose XP YP l.row.toRowW d [] (fun f vs => PySem.call f vs) := by
 refine Att.attach_call hn hdf fun w s₀ s₁ mg mb fa o pm cd doc a vs ns G Y ho hd hcd hmg hobj hints hlen hg => ?_;have KX := hY w _ Y;obtain ⟨fd, hb, hF⟩ := F w mg fa _ KX G.T.g hmg;exact zty KX G.T.g G.T.b G.T.builtins G.T.nolimit hg hobj hints (Jx hlen hn2) hr hF hb (fun H hO hS => hsp w H a ns hlen hO hS) fun H e s' => hCX w H s₁ e s'
end L2
/- THE LAST THEOREM (shape; LID, My.* are yours):
   My.Adr: a structure of the addresses that your layer names (classes, functions); My.Txt K t: a structure (Prop) of the equations over K;
   My.txt_mk : {K} {implicit addresses ..} (e1 : nsIn K mainGlobals "law" = some (some (.ref f))) (e2 : K.lookup f = some ⟨oc, od, .func (fnOf "law" "law" params body scope dV kV doc pm an cdv ct), sl⟩) (e3 : codeIn K cdv "law" = true) .. : ∃ t, My.Txt K t
set_option maxRecDepth 100000 in
set_option maxHeartbeats 0 in
theorem PySem.Challenge.cw_LID_holds : PySem.Challenge.rw_LID.Holds := by
 w_on; o_law; k_head; (case hw => w_witness2)
 k_fill
 refine L2.walk_of (l := PySem.Challenge.rw_LID) (n := 63) (k := 40) (x := "script") (CX := fun w => ..) (sp := fun _ => My.sp_law) rfl (by decide) rfl ⟨rfl, by decide, by decide⟩ (fun w h Y => PySem.W.kIn_of Y) ?F ?S ?C;case F =>
  intro w mg fa h KX G hmg;have T : ∃ t, My.Txt (L2.KOf KX) t := by
   dsimp only [L2.KOf]                          -- K must stand as «<heap const> w.params» for k_is
   refine' My.txt_mk ?e1 ?e2 ?e3 ..
   (case e1 => PySem.W.k_is)                    -- in the order: a name -> its address -> its object -> its zed
   (case e2 => PySem.W.k_is)
   ..
  obtain ⟨t, T⟩ := T;have e0 := hmg.symm.trans (PySem.W.mg_of KX G T.law);cases e0                                       -- fa is the law's own address
  exact ⟨_, fun s u => .of_eq rfl, fun base kb nb => My.law_fn T kb nb⟩     -- if «.of_eq rfl» comes too early: refine' ⟨_, ?b, fun base kb nb => My.law_fn T kb nb⟩; exact fun s u => .of_eq rfl
 case S => exact fun w H a ns hl hO hS => ..
 case C => exact ..
(the tactic k_is has no namespace: write k_is) -/
namespace L2
open PySem PySem.Spec PyProof.Rows
def yY (s : Stmt) : Arguments := match s with
 | .FunctionDef _ a _ _ _ _ _ _ _ _ => a
 | _ => { posonlyargs := [], args := [], vararg := none, kwonlyargs := [], kw_defaults := [], kwarg := none, defaults := [] }
def yW (s : Stmt) : List Stmt := match s with
 | .FunctionDef _ _ b _ _ _ _ _ _ _ => b
 | _ => []
def zE (s : Stmt) : Scope := match s with
 | .FunctionDef _ _ _ _ _ _ sc _ _ _ => sc
 | _ => { kind := .function, names := [], isGenerator := false, isCoroutine := false }
abbrev CX0 : CXT := fun _ _ _ _ _ _ => False
abbrev E0 : XK := fun _ _ _ => False
theorem zFk {X : Cx} : zis CX0 X E0 := fun _ _ _ _ _ _ _ h => h.elim
structure Fun (K : PySem.W.Frag) (x qual : Str) (st : Stmt) (f : Addr) (fd : FuncData) : Prop where
 ex : ∃ (oc : Value) (od : Option Addr) (kV doc pm : Value) (an : Option Addr) (cdv ct : Value) (osl : Array (Option Value)),
  fd = PySem.W.fnOf x qual (yY st) (yW st) (zE st) .none kV doc pm an cdv ct /\ K.lookup f = some ⟨oc, od, .func fd, osl⟩ /\ PySem.W.codeIn K cdv qual = true
 kp : PySem.W.keepIn K (.ref f) = true
section
variable {P : Program} {w : World} {K : PySem.W.Frag} {mg : Str -> Option Value} {base : Heap}
theorem Fun.ok {x qual : Str} {st : Stmt} {f : Addr} {fd : FuncData} {N ps : List Str} {k : Nat} {sp : Sp} (F : Fun K x qual st f fd) (S : zL N ps (zE st)) (len : ∀ vs H Q E, sp vs H Q E -> vs.length = ps.length)
  (hbody : ∀ (cdv : Value) (A : Around) (outer : List Env) (s : Shared) (H : Hp) (vs : List V) (Q : VK) (E : XK), Room k (A.deeper (envOfC qual (zE st) s.heap.objs.size f cdv)) -> sp vs H Q E ->
   ∃ t, PSs (zmn CX0 P w K mg base N qual (zE st) f cdv A outer s H E).nox (yW st) t /\ t { nx := fun _ H' => Q .non H', rt := Q } (start N vs) H) : zhe P w K mg base CX0 (k + 1) f fd ps sp := by
 obtain ⟨oc, od, kV, doc, pm, an, cdv, ct, osl, rfl, lk, hcd⟩ := F.ex;refine zBa lk hcd S len fun A outer s H vs Q E hr hsp => ?_;obtain ⟨t, h, q⟩ := hbody cdv A outer s H vs Q E hr hsp;exact ⟨t, h.nox, q⟩
theorem Fun.binds {x qual : Str} {st : Stmt} {f : Addr} {fd : FuncData} {ps : List Str} (F : Fun K x qual st f fd)
  (h : ∀ (kV doc pm : Value) (an : Option Addr) (cdv ct : Value) (us : List Value), us.length = ps.length -> bindArgs (PySem.W.fnOf x qual (yY st) (yW st) (zE st) .none kV doc pm an cdv ct) ⟨us, []⟩ = pure (ps.zip us)) : Binds K fd ps [] := by
 obtain ⟨oc, od, kV, doc, pm, an, cdv, ct, osl, rfl, lk, hcd⟩ := F.ex;exact .all (h kV doc pm an cdv ct)
theorem zni {x qual : Str} {st : Stmt} {f : Addr} {oc : Value} {od an : Option Addr} {osl : Array (Option Value)} {kV doc pm cdv ct : Value} (l : K.lookup f = some ⟨oc, od, .func (PySem.W.fnOf x qual (yY st) (yW st) (zE st) .none kV doc pm an cdv ct), osl⟩)
  (c : PySem.W.codeIn K cdv qual = true) (k : PySem.W.keepIn K (.ref f) = true) : Fun K x qual st f (PySem.W.fnOf x qual (yY st) (yW st) (zE st) .none kV doc pm an cdv ct) := ⟨⟨oc, od, kV, doc, pm, an, cdv, ct, osl, rfl, l, c⟩, k⟩
end
theorem zeg {A : Around} {k : Nat} (hr : Room k A) : A.units + 1 < cLine := Js (Nat.add_le_add_left (by decide : 1 <= 64) _) hr.units
section
variable {X : Cx}
theorem pv (i : Nat) {x : Str} {pos : Pos} (hN : X.N[i]? = some x := by rfl) (hv : Vis X.env.scope x := by first | exact Or.inl rfl | exact Or.inr (Or.inl rfl) | exact Or.inr (Or.inr rfl)) (hd : (x == ("__debug__" : Str)) = false := by decide)
  (hcd : (x == ("__classdict__" : Str)) = false := by decide) : PE X (.Name x pos) (zlr i) := zCs hN hv hd hcd
end
theorem wL {A B : Prop} (h : B) : if false = true then A else B := by
 rw [if_neg Q1];exact h
theorem jP {A B : Prop} (h : A) : if true = true then A else B := by
 rw [if_pos rfl];exact h
theorem zdt {c A B : Prop} [Decidable c] (h1 : c -> A) (h2 : ¬ c -> B) : if c then A else B := by
 by_cases h : c
 ·rw [if_pos h];exact h1 h
 ·rw [if_neg h];exact h2 h
def Same (H H' : Hp) : Prop := ∀ b o, H b = some o -> H' b = some o
theorem Same.refl (H : Hp) : Same H H := fun _ _ h => h
theorem Same.trans {H H1 H2 : Hp} (a : Same H H1) (b : Same H1 H2) : Same H H2 := fun c o h => b c o (a c o h)
theorem Same.free {H H' : Hp} (e : Same H H') {l : Addr} (h : H' l = Option.none) : H l = Option.none := by
 cases q : H l with
 | none => rfl
 | some o =>
  rw [e l o q] at h;cases h
theorem Same.seq {K : PySem.W.Frag} {H H' : Hp} {a : Addr} {xs : List V} (e : Same H H') (h : SqL K H a xs) : SqL K H' a xs := by
 rcases h with (h | ⟨o, h⟩) | h
 ·exact .inl (.inl (e _ _ h))
 ·exact .inl (.inr ⟨o, e _ _ h⟩)
 ·exact .inr h
def zAe (X : Cx) (ifs : List Expr) (t : TT) : Prop :=
 ∀ (pins : List (Addr × Obj)) (s : Shared) (σ : St) (H : Hp) (Q : Bool -> Hp -> Prop), Inv X pins σ H s -> t σ H Q ->
  wpAny (model X.prog X.w) X.A (forIn ifs true fun c r => if r = true then do
   let ok <- isTrue c X.env (eval c X.env)
   pure (ForInStep.yield ok) else pure (ForInStep.yield r)) (TP X pins σ Q) X.xe s
def zEi : TT := fun _ H Q => Q true H
theorem xA {X : Cx} : zAe X [] zEi := fun _ _ _ H _ I h => wpAny_tests_nil ⟨H, I, h⟩
theorem y9 {X : Cx} {c : Expr} {t : TT} (h : PT X c t) : zAe X [c] t := fun pins s σ H Q I hw => wpAny_tests_one (h pins s σ H Q I hw)
def zao (env : Env) : List (Str × NameKind) -> List (Str × Addr) -> List (Str × Addr)
 | [], cs => cs
 | (n, k) :: r, cs => zao env r (if (k == NameKind.free) = true then (n, (env.cells.lookup n).getD 0) :: cs else cs)
theorem zai {env : Env} : ∀ (names : List (Str × NameKind)) (cs : List (Str × Addr)), (∀ x ∈ names, x.2 = .free -> ∃ c, env.cells.lookup x.1 = some c) ->
  (forIn names cs fun (x : Str × NameKind) (r : List (Str × Addr)) => (if (x.2 == NameKind.free) = true then do
   let a <- cellOf env x.1
   pure (ForInStep.yield ((x.1, a) :: r)) else pure (ForInStep.yield r) : Sem (ForInStep (List (Str × Addr))))) = pure (zao env names cs)
 | [], cs, _ => rfl
 | (n, k) :: r, cs, h => by
  rw [List.forIn_cons];by_cases hk : (k == NameKind.free) = true
  ·obtain ⟨c, hc⟩ := h (n, k) Qk (by simpa using hk);have hc' : env.cells.lookup n = some c := hc;have e1 : cellOf env n = pure c := by unfold cellOf; rw [hc']
   simp only [hk, if_true, e1, pure_bind];rw [zai r _ fun x hx => h x (Qy _ hx)];simp [zao, hk, hc']
  ·simp only [hk, pure_bind];rw [if_neg (by simp), pure_bind];dsimp only;rw [zai r _ fun x hx => h x (Qy _ hx)];simp [zao, hk]
theorem zcm {scope : Scope} {env : Env} (h : ∀ x ∈ scope.names, x.2 = .free -> ∃ c, env.cells.lookup x.1 = some c) : closureFor scope env = pure (zao env scope.names []) := by
 have e := zai scope.names [] h;simp only [closureFor]
 first
  | (rw [e]; rfl)
  | (refine Eq.trans (congrArg (fun t => t >>= _) e) ?_; rfl)
  | (simp only [e]; rfl)
theorem gD {env : Env} {x : Str} {c : Addr} : ∀ (names : List (Str × NameKind)) (cs : List (Str × Addr)), (∀ y ∈ names, y.2 = .free -> ∃ d, env.cells.lookup y.1 = some d) ->
  (zao env names cs).lookup x = some c -> cs.lookup x = some c \/ env.cells.lookup x = some c
 | [], cs, _, e => .inl e
 | (n, k) :: r, cs, h, e => by
  have e' : (zao env r (if (k == NameKind.free) = true then (n, (env.cells.lookup n).getD 0) :: cs else cs)).lookup x = some c := e;rcases gD r _ (fun y hy => h y (Qy _ hy)) e' with q | q
  ·by_cases hk : (k == NameKind.free) = true
   ·rw [if_pos hk] at q;obtain ⟨d, hd⟩ := h (n, k) Qk (by simpa using hk);have hd' : env.cells.lookup n = some d := hd;rw [Wm] at q;by_cases hx : (x == n) = true
    ·rw [hx] at q;have ex : x = n := by simpa using hx
     subst ex;rw [hd'] at q;simp at q;exact .inr (by rw [hd', q])
    ·simp only [hx] at q;exact .inl q
   ·rw [if_neg hk] at q;exact .inl q
  ·exact .inr q
theorem zfk {env : Env} {x : Str} : ∀ (names : List (Str × NameKind)) (cs : List (Str × Addr)), (∃ c, cs.lookup x = some c) -> ∃ c, (zao env names cs).lookup x = some c
 | [], cs, h => h
 | (n, k) :: r, cs, h => by
  refine zfk r _ ?_;by_cases hk : (k == NameKind.free) = true
  ·rw [if_pos hk, Wm];cases hx : x == n with
   | true => exact ⟨_, rfl⟩
   | false => exact h
  ·rw [if_neg hk]; exact h
theorem zdk {env : Env} {x : Str} : ∀ (names : List (Str × NameKind)) (cs : List (Str × Addr)), (x, NameKind.free) ∈ names -> ∃ c, (zao env names cs).lookup x = some c
 | (n, k) :: r, cs, h => by
  show ∃ c, (zao env r (if (k == NameKind.free) = true then (n, (env.cells.lookup n).getD 0) :: cs else cs)).lookup x = some c;rcases Qs.mp h with e | e
  ·cases e
   refine zfk r _ ⟨(env.cells.lookup x).getD 0, ?_⟩;rw [if_pos (by rfl), Wm];simp
  ·exact zdk r _ e
def zoa (env : Env) (names : List (Str × NameKind)) : List (Str × NameKind) :=
 names.map fun (n, k) => if (k == NameKind.free && env.scope.kind == .function && env.kindOf n == some .cell) then (n, NameKind.cell) else (n, k)
theorem kT {env : Env} {x : Str} {k' : NameKind} : ∀ (names : List (Str × NameKind)), (zoa env names).lookup x = some k' -> ∃ k, names.lookup x = some k /\ (k' = k \/ (k = .free /\ k' = .cell))
 | [], h => by simp [zoa] at h
 | (n, k) :: r, h => by
  have ih := kT (env := env) (x := x) (k' := k') r;have h' : ((if (k == NameKind.free && env.scope.kind == .function && env.kindOf n == some .cell) = true then (n, NameKind.cell) else (n, k)) :: zoa env r).lookup x = some k' := h;by_cases hc : (k == NameKind.free && env.scope.kind == .function && env.kindOf n == some .cell) = true
  ·rw [if_pos hc, Wm] at h';rw [Wm];cases hx : x == n with
   | true =>
    rw [hx] at h';have h2 : NameKind.cell = k' := Option.some.inj h';have hk : k = .free := by
     cases k <;> first | rfl | (simp at hc)
    exact ⟨k, rfl, .inr ⟨hk, h2.symm⟩⟩
   | false =>
    rw [hx] at h';exact ih h'
  ·rw [if_neg hc, Wm] at h';rw [Wm];cases hx : x == n with
   | true =>
    rw [hx] at h';exact ⟨k, rfl, .inl (Option.some.inj h').symm⟩
   | false =>
    rw [hx] at h';exact ih h'
def vG (X : Cx) (scope : Scope) (N' : List Str) (fp : List Addr) (C : Addr) (s : Shared) (H : Hp) : Cx where
 prog := X.prog
 w := X.w
 K := X.K
 mg := X.mg
 base := X.base
 A := X.A
 N := N'
 s₀ := s
 H₀ := H
 env := compEnvC scope (zao X.env scope.names []) C X.env
 outer := X.stack
 stack := X.stack
 ex := fp
 fn := fun _ => false
 calm := true
 pn := X.pn
 xe := fun _ _ => False
def jH (fr : List (Option Nat)) (σ : St) : St := fr.map fun o => o.bind fun j => (σ[j]?).join
def zza (N : List Str) (kinds names : List (Str × NameKind)) (N' : List Str) (fr : List (Option Nat)) : Bool :=
 (N'.length == fr.length) && (N'.zip fr).all fun p => match p.2 with
  | none => true
  | some j => N[j]? == some p.1 && names.lookup p.1 == some NameKind.free && (kinds.lookup p.1 == some NameKind.cell || kinds.lookup p.1 == some NameKind.free)
theorem zyz {N : List Str} {kinds names : List (Str × NameKind)} {N' : List Str} {fr : List (Option Nat)} (h : zza N kinds names N' fr = true) {i j : Nat} {x : Str} (h1 : N'[i]? = some x) (h2 : fr[i]? = some (some j)) :
  N[j]? = some x /\ names.lookup x = some NameKind.free /\ (kinds.lookup x = some NameKind.cell \/ kinds.lookup x = some NameKind.free) := by
 unfold zza at h;rw [Q5, Jb] at h;have hm : (x, some j) ∈ N'.zip fr := by
  refine Jq (i := i) ?_;rw [List.getElem?_zip_eq_some];exact ⟨h1, h2⟩
 have q := h.2 _ hm;simp only [Q5, Bool.or_eq_true, beq_iff_eq] at q;exact ⟨q.1.1, q.1.2, q.2⟩
structure CompOk (X : Cx) (scope : Scope) (N' : List Str) (fr : List (Option Nat)) : Prop where
 kind : scope.kind = .function
 cells : ∀ y ∈ scope.names, y.2 ≠ .cell
 names : ∀ y ∈ scope.names, y.2 = .local -> scope.names.lookup y.1 = some .local
 frees : ∀ y ∈ scope.names, y.2 = .free -> X.env.kindOf y.1 = some .cell \/ X.env.kindOf y.1 = some .free
 fr : zza X.N X.env.scope.names scope.names N' fr = true
section
variable {X : Cx} {scope : Scope} {N' : List Str} {fr : List (Option Nat)} {pins : List (Addr × Obj)} {σ : St} {H : Hp} {s : Shared} {fp : List Addr}
theorem CompOk.has (c : CompOk X scope N' fr) (ok : X.Ok) : ∀ y ∈ scope.names, y.2 = .free -> ∃ d, X.env.cells.lookup y.1 = some d := fun y hy h => ok.has _ (c.frees y hy h)
theorem zua {C : Addr} {h' : Heap} {tk : Nat} {m : Str -> Option Value} (c : CompOk X scope N' fr) (hc : X.calm = true) (I : Inv X pins σ H s) (hf : ∀ b ∈ fp, zfu X pins H b) (hlt : ∀ b ∈ fp, b < s.heap.objs.size)
  (old : ∀ b o, s.heap.get? b = some o -> h'.get? b = some o) (hC : s.heap.objs.size <= C) (hn : h'.Ns C m) :
  Inv (vG X scope N' fp C s H) pins (jH fr σ) H { s with heap := h', toks := tk } := by
 have get : ∀ x d, (zao X.env scope.names []).lookup x = some d -> X.env.cells.lookup x = some d := fun x d e => by
  rcases gD scope.names [] (c.has I.ok) e with q | q
  ·simp at q
  ·exact q
 have old2 : ∀ b, b < s.heap.objs.size -> b ≠ C := fun b hb => Q7 (Jv hb hC);have hl : (jH fr σ).length = N'.length := by
  have q := c.fr;unfold zza at q;rw [Q5] at q;have q1 : N'.length = fr.length := by simpa using q.1
  rw [jH, Qj, q1]
 refine ⟨⟨I.ok.mod, c.kind, I.ok.glob, I.ok.blt, hC, ?_, ?_, (fun _ _ z => nomatch z), fun _ => I.ok.hd hc, I.ok.frames, .inl rfl, ?_, I.bs, Jx I.ok.bsz I.sz, ?_, ?_, I.stack, I.stkFree⟩, rfl, I.bare, Un.kept old, ⟨m, hn, ?_⟩, ?_, I.hok.fresh hC, ?_, ?_, I.hok.kept old, hl⟩
 ·exact fun x y d e1 e2 => I.ok.inj x y d (get x d e1) (get y d e2)
 ·intro x hx;have hx' : (zoa X.env scope.names).lookup x = some .cell \/ (zoa X.env scope.names).lookup x = some .free := hx;have fin : scope.names.lookup x = some .free -> ∃ d, (zao X.env scope.names []).lookup x = some d := fun e => zdk scope.names [] (PySem.mem_of_lookup e);rcases hx' with q | q
  ·obtain ⟨k, e, z⟩ := kT scope.names q;rcases z with z | ⟨z, _⟩
   ·subst z;exact absurd rfl (c.cells _ (PySem.mem_of_lookup e))
   ·subst z;exact fin e
  ·obtain ⟨k, e, z⟩ := kT scope.names q;rcases z with z | ⟨_, z⟩
   ·subst z;exact fin e
   ·cases z
 ·exact fun b hb => ⟨old2 b (hlt b hb), fun x d e => (hf b hb).2.2.2.2.1 x d (get x d e)⟩
 ·intro b o e hb;rcases (hf b hb).2.2.2.1 with z | z
  ·exact I.ok.noex b o e z
  ·exact absurd (Jv (Qt e) (Jx I.ok.bsz z)) (Wn _)
 ·intro b hb hs;rcases Qs.mp (I.stkSub b hs) with z | z
  ·exact (hf b hb).2.1 z
  ·exact (hf b hb).2.2.1 z
 ·intro i x v e1 e2 e3;have e2' : (fr.map fun o => o.bind fun j => (σ[j]?).join)[i]? = some (some v) := e2;rw [Jz] at e2';cases q : fr[i]? with
  | none => rw [q] at e2'; cases e2'
  | some o =>
   rw [q] at e2';have e3' : (o.bind fun j => (σ[j]?).join) = some v := Option.some.inj e2';cases o with
   | none => cases e3'
   | some j =>
    have e4 : (σ[j]?).join = some v := e3';have e5 : σ[j]? = some (some v) := by
     cases z : σ[j]? with
     | none => rw [z] at e4; cases e4
     | some w => rw [z] at e4; exact congrArg some e4
    obtain ⟨f1, f2, f3⟩ := zyz c.fr e1 q;obtain ⟨m0, hn0, hl0⟩ := I.loc;have vis : Vis X.env.scope x := f3.elim (fun z => .inr (.inl z)) fun z => .inr (.inr z);obtain ⟨u, r, look⟩ := hl0 j x v f1 e5 vis;refine ⟨u, r, ?_⟩;rcases look with ⟨k, _⟩ | ⟨k, d, hd, hcell⟩
    ·have k' : X.env.scope.names.lookup x = some .local := k;rcases f3 with z | z <;> (rw [k'] at z; cases z)
    ·refine .inr ⟨?_, d, ?_, ?_⟩
     ·have e3'' : (zoa X.env scope.names).lookup x = some .local \/ (zoa X.env scope.names).lookup x = some .cell \/ (zoa X.env scope.names).lookup x = some .free := e3;rcases e3'' with z | z | z
      ·obtain ⟨k2, e, z2⟩ := kT scope.names z;rw [f2] at e;cases e
       rcases z2 with z2 | ⟨_, z2⟩ <;> cases z2
      ·exact .inl z
      ·exact .inr z
     ·obtain ⟨d', e⟩ := zdk (env := X.env) scope.names [] (PySem.mem_of_lookup f2);have := get x d' e;rw [hd] at this;cases this
      exact e
     ·obtain ⟨ob, h1, h2⟩ := hcell;exact ⟨ob, old _ _ h1, h2⟩
 ·intro x d e;obtain ⟨v, ob, h1, h2⟩ := I.cell x d (get x d e);exact ⟨v, ob, old _ _ h1, h2⟩
 ·exact fun x d e => I.freeC x d (get x d e)
 ·intro p hp;obtain ⟨e, n, ne, nf, dd⟩ := I.pin p hp;refine ⟨old _ _ e, n, old2 _ (Qt e), fun hs => ?_, dd⟩;rcases Qs.mp (I.stkSub p.1 hs) with z | z
  ·exact ne z
  ·exact nf z
end
section
variable {prog : Program} {w : World} {A : Around} {R : Result -> Shared -> Prop} {s : Shared}
theorem zrc {elt tg iter : Expr} {ifs : List Expr} {scope : Scope} {pos : Pos} {it acc : Value} {env : Env} (J : Nat -> Shared -> Prop)
  (turn : ∀ n s, J n s -> wpAny (model prog w) A (pyNext it) (fun r s1 => match r with
   | none => R (.ok .next) s1
   | some v => wpAny (model prog w) A (letOwnedTupleGo tg it v) (fun _ s2 => wpAny (model prog w) A (assign tg env v) (fun _ s3 =>
     wpAny (model prog w) A (forIn ifs true fun c r => if r = true then do
      let ok <- isTrue c env (eval c env)
      pure (ForInStep.yield ok) else pure (ForInStep.yield r)) (fun ok s4 =>
       if ok = true then wpAny (model prog w) A (eval elt env) (fun x s5 =>
        wpAny (model prog w) A (call (.builtin "list.append") [acc, x]) (fun _ s6 => ∃ m, m < n /\ J m s6) (fun _ _ => False) s5) (fun _ _ => False) s4
       else ∃ m, m < n /\ J m s4) (fun _ _ => False) s3) (fun _ _ => False) s2) (fun _ _ => False) s1) (fun _ _ => False) s)
  (n : Nat) (h : J n s) : codeAny (model prog w) A (.compLoop (.ListComp elt [⟨tg, iter, ifs, 0⟩] scope pos) 0 it acc env) R s := by
 refine codeAny_loop rfl J (fun k s1 hJ => ?_) n h;show wpAny _ A ((compTurn (.ListComp elt [⟨tg, iter, ifs, 0⟩] scope pos) 0 it acc env).onRaise (fun y => do noteFrame y env; theTreesLotGoes y)) _ _ s1;refine wpAny_noted (wpAny_mono (E := fun _ _ => False) ?_ (fun _ _ q => q) fun _ _ z => z.elim);rw [compTurn_list];refine Qq (wpAny_standAt (Qq (thn (turn k s1 hJ) fun r s2 h2 => ?_)));cases r with
 | none => exact Qv h2
 | some v =>
  refine Qq (thn h2 fun _ s3 h3 => Qq (thn h3 fun _ s4 h4 => Qq (thn h4 fun ok s5 h5 => ?_)));cases ok with
  | false => exact Qv ⟨rfl, h5⟩
  | true =>
   refine Qq (Qq (thn h5 fun x s6 h6 => Qq (thn h6 fun _ s7 h7 => ?_)));exact Qv (Qv ⟨rfl, h7⟩)
end
theorem HOk.track {P : Program} {w : World} {H : Hp} {h : Heap} {a : Addr} {o : HO} (ok : HOk P w H h) (hn : H a = none) (new : ObjOk P w (upd H a o) h a o) : HOk P w (upd H a o) h := fun b u q => by
 by_cases hb : b = a
 ·subst hb;rw [zC] at q;cases q
  exact new
 ·rw [zU hb] at q;exact (ok b u q).stay (fun _ _ _ r => r) (fun c r => by rw [zU (zP r hn)]; exact r) fun c xs r => by rw [zU (zP r hn)]; exact r
def zej (J : It) (g : TG) (tt : TT) (te : TE) (fin : List V -> Hp -> Prop) (W : Nat -> Nat -> List V -> St -> Hp -> Prop) : Prop :=
 ∀ i m ys σ H, W i m ys σ H -> (J.stop i H /\ ys.length <= sizeLine /\ fin ys H) \/ (J.go i H /\ ys.length < sizeLine /\ ∀ x H', J.yld i H x H' -> g x σ H' fun σ2 H2 => tt σ2 H2 fun b H3 =>
  if b = true then te σ2 H3 fun y H4 => ∃ m', m' < m /\ W (i + 1) m' (ys ++ [y]) σ2 H4 else ∃ m', m' < m /\ W (i + 1) m' ys σ2 H3)
section
variable {X : Cx} {scope : Scope} {N' : List Str} {fr : List (Option Nat)} {pins : List (Addr × Obj)} {σ : St} {H : Hp} {s : Shared} {fp : List Addr} {it : Addr} {tn : Nat -> Heap -> Prop} {J : It}
 {elt tg iter : Expr} {ifs : List Expr} {g : TG} {tt : TT} {te : TE} {pos : Pos} {fin : List V -> Hp -> Prop} {W : Nat -> Nat -> List V -> St -> Hp -> Prop} {RR : Value -> Addr -> Result -> Shared -> Prop} {E : Value -> Shared -> Prop}
theorem zcl (c : CompOk X scope N' fr) (hc : X.calm = true) (I : Inv X pins σ H s) (T : zsn X.prog X.w X.K tg J fp it tn) (st : tn 0 s.heap) (hf : ∀ b ∈ fp, zfu X pins H b)
  (hg : ∀ fp C s H, PG (vG X scope N' fp C s H) tg g) (ht : ∀ fp C s H, zAe (vG X scope N' fp C s H) ifs tt) (he : ∀ fp C s H, PE (vG X scope N' fp C s H) elt te)
  (hW : zej J g tt te fin W) (h0 : ∃ m, W 0 m [] (jH fr σ) H)
  (hRR : ∀ D C ys H' s', Inv X pins σ (upd H' D (.lst ys)) s' -> (∃ m, s'.heap.Ns C m) -> zfu X pins (upd H' D (.lst ys)) C -> H' D = none -> fin ys H' -> RR (.ref D) C (.ok .next) s') :
  wpAny (model X.prog X.w) X.A (newList []) (fun acc s3 => wpAny (model X.prog X.w) X.A (newFunctionEnv scope X.env.globals (zao X.env scope.names []) [] X.env.qual none .none (some X.env)) (fun cenv s4 =>
   codeAny (model X.prog X.w) X.A (.compStart (.ListComp elt [⟨tg, iter, ifs, 0⟩] scope pos) 0 (.ref it) acc { cenv with scope := relabel scope X.env }) (RR acc cenv.locals) s4) E s3) E s := by
 refine Jg (wpAny_newFunctionEnv c.cells (by intro y hy; simp at hy) (fun h1 hns hsb => ?_) c.kind);dsimp only at hns hsb ⊢;generalize hH2 : s.heap.push { cls := .type "list", dict := none, data := .seq ([] : List Value).toArray } = H2 at hns hsb ⊢;have hD0 : s.heap.objs.size < H2.objs.size := by rw [<- hH2, Heap.size_push]; exact Nat.lt_succ_self _
 generalize hDD : s.heap.objs.size = D at hD0 ⊢;generalize hCC : H2.objs.size = C at hns hsb hD0 ⊢;have up : ∀ b o, s.heap.get? b = some o -> h1.get? b = some o := fun b o e => hsb.extBut b o (by
  have := Qt e;rw [hDD] at this;exact Q7 (Nat.lt_trans this hD0)) (Qz _ (by rw [<- hH2]; exact Qz _ e))
 have accD : h1.get? D = some { cls := .type "list", dict := none, data := .seq ([] : List Value).toArray } := hsb.extBut _ _ (Q7 hD0) (Qz _ (by rw [<- hH2, <- hDD]; exact Qb _ rfl));have hlt : ∀ b ∈ fp, b < s.heap.objs.size := fun b hb => by
  obtain ⟨o, e, _⟩ := T.obj 0 _ st b hb;exact Qt e
 have hle : s.heap.objs.size <= C := by rw [hDD]; exact J9 hD0
 generalize hX' : vG X scope N' fp C s H = X';have I1 : Inv X' pins (jH fr σ) H { s with heap := h1, toks := s.toks + ([] : List (Str × Value)).length } := by
  subst hX';exact zua c hc I hf hlt up hle hns
 have st1 : tn 0 h1 := T.keep _ _ _ st fun b hb o e => up b o e;have pm : X'.prog = X.prog := by subst hX'; rfl
 have wm : X'.w = X.w := by subst hX'; rfl
 have km : X'.K = X.K := by subst hX'; rfl
 have cm : X'.calm = true := by subst hX'; rfl
 have am : X'.A = X.A := by subst hX'; rfl
 have xm : X'.xe = fun _ _ => False := by subst hX'; rfl
 have lm : X'.env.locals = C := by subst hX'; rfl
 have szm : X'.s₀.heap.objs.size = s.heap.objs.size := by subst hX'; rfl
 have nm : X'.pn = X.pn := by subst hX'; rfl
 have hg' := hg fp C s H;have ht' := ht fp C s H;have he' := he fp C s H;have em : X'.env = compEnvC scope (zao X.env scope.names []) C X.env := by subst hX'; rfl
 have fsm : X'.fs = frs X.stack := by subst hX'; rfl
 have exm : X'.ex = fp := by subst hX'; rfl
 rw [hX'] at hg' ht' he';have ageP : ∀ p ∈ X.pn ++ pins, p.1 < D := fun p hp => by rw [<- hDD]; exact Qt (I.pin p hp).1
 have ageC : ∀ x d, X'.env.cells.lookup x = some d -> d < D := fun x d e => by
  rw [em] at e;rcases gD scope.names [] (c.has I.ok) e with q | q
  ·simp at q
  ·obtain ⟨v, z⟩ := I.cell x d q;rw [<- hDD];exact z.lt
 have cellF : ∀ x d, X'.env.cells.lookup x = some d -> X.env.cells.lookup x = some d := fun x d e => by
  rw [em] at e;rcases gD scope.names [] (c.has I.ok) e with q | q
  ·simp at q
  ·exact q
 have fps : ∀ {H' : Hp} {oD : Obj}, (∀ b ∈ fp, H' b = none) -> ∀ b ∈ fp, zfu X' (pins ++ [(D, oD)]) H' b := fun {H' oD} hn b hb => by
  obtain ⟨_, f1, f2, f3, f4, f5⟩ := hf b hb;have hbD : b < D := by rw [<- hDD]; exact hlt b hb
  refine ⟨hn b hb, ?_, ?_, .inl (by rw [exm]; exact hb), fun x d e => f4 x d (cellF x d e), fun p hp => ?_⟩
  ·rw [lm]; exact Q7 (Nat.lt_trans hbD hD0)
  ·rw [fsm];intro hs;rcases Qs.mp (I.stkSub b hs) with z | z
   ·exact f1 z
   ·exact f2 z
  ·rw [nm, <- Jc] at hp;rcases Qr.mp hp with z | z
   ·exact f5 p z
   ·rw [Qx.mp z];exact Nat.ne_of_gt hbD
 have pinD : ∀ {σ' : St} {H' : Hp} {s' : Shared} {its : List Value} {k : Nat}, Inv X' pins σ' H' s' -> s'.heap.get? D = some { cls := .type "list", data := .seq its.toArray k } -> H' D = none ->
   Inv X' (pins ++ [(D, { cls := .type "list", data := .seq its.toArray k })]) σ' H' s' := fun {σ' H' s' its k} J0 e n => J0.pins_of fun p hp => by
  rcases Qr.mp hp with z | z
  ·exact J0.pin p (Qp _ z)
  ·rw [Qx.mp z];refine ⟨e, n, ?_, ?_, fun v q => by cases q⟩
   ·show D ≠ X'.env.locals;rw [lm];exact Q7 hD0
   ·rw [fsm];intro hs;have hb := I.stkSub D hs;rcases Qs.mp hb with z | z
    ·have := I.lt;rw [<- z, hDD] at this;exact Wn _ this
    ·exact I.nofs (Nat.le_of_eq hDD) z
 have loop : ∀ s0 : Shared, s0 = { s with heap := h1, toks := s.toks + ([] : List (Str × Value)).length } ->
   codeAny (model X.prog X.w) X.A (.compLoop (.ListComp elt [⟨tg, iter, ifs, 0⟩] scope pos) 0 (.ref it) (.ref D) X'.env) (RR (.ref D) C) s0 := by
  rintro s0 rfl;obtain ⟨m0, w0⟩ := h0;refine zrc (fun n s' => ∃ i ys σ' H' its k, Inv X' pins σ' H' s' /\ tn i s'.heap /\ (∀ b ∈ fp, H' b = none) /\ s'.heap.get? D = some { cls := .type "list", data := .seq (its : List Value).toArray k } /\ H' D = none /\ Vals ys its /\ W i n ys σ' H')
   ?_ m0 ⟨0, [], jH fr σ, H, [], 0, I1, st1, fun b hb => (hf b hb).1, accD, I.hok.fresh (by rw [hDD]; exact Qw _), .nil, w0⟩
  rintro n s1 ⟨i, ys, σ1, H1, its, k, J1, t1, n1, d1, nD1, v1, w1⟩;have J1' := pinD J1 d1 nD1;rcases hW i n ys σ1 H1 w1 with ⟨stop, hlen, fi⟩ | ⟨go, hlen, step⟩
  ·have a1 := T.done X' pm wm km cm i _ s1 σ1 H1 (fun _ _ => False) J1' (fps n1) t1 stop;rw [am] at a1;refine thn a1 fun r s2 ⟨hr, J2⟩ => ?_;subst hr;obtain ⟨d2, nD2, _⟩ := J2.pin (D, _) (Qp _ (Qp _ Qk));have u2 : Un (frs X.stack) fp H H1 s.heap s2.heap := by
    have := J2.base;subst hX';exact this
   have hok2 : HOk X.prog X.w (upd H1 D (.lst ys)) s2.heap := by
    have h2 := J2.hok;rw [pm, wm] at h2;exact h2.track nD1 ⟨hlen, its, k, v1, d2⟩
   have J3 : Inv X pins σ (upd H1 D (.lst ys)) s2 := by
    refine I.call' (ch := fp) (by have := J2.os; subst hX'; exact this) ⟨fun b o e n hb hx => u2.keep b o e n hb hx, fun b o e n hb hx => u2.slot b o e n hb hx, fun b o e n hx => ?_, fun b o e hx => u2.there b o e hx, fun b xs e => ?_, fun b o u e => ?_, fun b ps e => ?_⟩ hok2 J2.bare fun b hb => ?_
    ·have ne : b ≠ D := Q7 (by rw [<- hDD]; exact Qt e);rw [zU ne];exact u2.free b o e n hx
    ·have q := u2.tups b xs e;rw [zU (zP q nD1)];exact q
    ·have q := u2.frzs b o u e;rw [zU (zP q nD1)];exact q
    ·obtain ⟨more, q⟩ := u2.tbls b ps e;exact ⟨more, by rw [zU (zP q nD1)]; exact q⟩
    ·obtain ⟨_, f1, f2, f3, f4, f5⟩ := hf b hb;exact ⟨f3, f1, f4, f5⟩
   have nC : (upd H1 D (.lst ys)) C = none := by
    rw [zU (Nat.ne_of_gt hD0)];have := J2.free;rw [lm] at this;exact this
   refine hRR D C ys H1 s2 J3 ?_ (I.fpOk hle nC) nD1 fi;obtain ⟨m, hm, _⟩ := J2.loc;rw [lm] at hm;exact ⟨m, hm⟩
  ·have a1 := T.item X' pm wm km cm i _ s1 σ1 H1 (fun _ _ => False) J1' (fps n1) t1 go;rw [am] at a1;refine thn a1 fun r s2 ⟨u, hr, h2⟩ => ?_;subst hr;refine thn h2 fun _ s3 ⟨x, H3, J3, r3, y3, t3, n3⟩ => ?_;have J3' := J3.pinned (fps n3) (T.obj _ _ t3);have a3 := hg' _ s3 σ1 H3 x u _ J3' r3 (step x H3 y3);rw [pm, wm, am, xm] at a3;refine thn a3 fun _ s4 ⟨σ4, H4, J4, q4⟩ => ?_;have a4 := ht' _ s4 σ4 H4 _ J4 q4;rw [pm, wm, am, xm] at a4;refine thn a4 fun ok s5 ⟨H5, J5, q5⟩ => ?_;have keepT : ∀ {σ' : St} {H' : Hp} {s' : Shared}, Inv X' (pins ++ [(D, { cls := .type "list", data := .seq its.toArray k })] ++ zdq fp s3.heap) σ' H' s' -> tn (i + 1) s'.heap /\ (∀ b ∈ fp, H' b = none) /\ s'.heap.get? D = some { cls := .type "list", data := .seq its.toArray k } /\ H' D = none /\ Inv X' pins σ' H' s' := fun {σ' H' s'} J0 => by
    refine ⟨T.keep _ _ _ t3 fun b hb o e => (J0.pin (b, o) (Qp _ (Qp _ (qA hb e)))).1, fun b hb => ?_, ?_, ?_, J0.unpinned.unpinned⟩
    ·obtain ⟨o, e, _⟩ := T.obj _ _ t3 b hb;exact (J0.pin (b, o) (Qp _ (Qp _ (qA hb e)))).2.1
    ·exact (J0.pin (D, _) (Qp _ (Qn _ (Qp _ Qk)))).1
    ·exact (J0.pin (D, { cls := .type "list", data := .seq its.toArray k }) (Qp _ (Qn _ (Qp _ Qk)))).2.1
   cases ok with
   | false =>
    obtain ⟨m', hm, w'⟩ := q5;obtain ⟨e1, e2, e3, e4, e5⟩ := keepT J5;rw [if_neg Q1];exact ⟨m', hm, i + 1, ys, σ4, H5, its, k, e5, e1, e2, e3, e4, v1, w'⟩
   | true =>
    rw [if_pos rfl];have a5 := he' _ s5 σ4 H5 _ J5 q5;rw [pm, wm, am, xm] at a5;refine thn a5 fun u6 s6 ⟨y, H6, J6, r6, m', hm, w6⟩ => ?_;obtain ⟨e1, e2, e3, e4, e5⟩ := keepT J6;refine append_at (hsz := by show its.toArray.size <= sizeLine; rw [Qh, <- v1.length]; exact J9 hlen) e3 fun h7 sb7 d7 => ?_;have J7 : Inv X' pins σ4 H6 { s6 with heap := h7 } := e5.turned (t' := s6.toks) (it := D) (fun b o hb e => sb7.extBut b o hb e) e4 (by rw [lm]; exact Q7 hD0) (.inr (by rw [szm, hDD]; exact Qw _)) (fun x d e => Q7 (ageC x d e)) fun p hp => by
     rw [nm] at hp;exact Q7 (ageP p hp)
    refine ⟨m', hm, i + 1, ys ++ [y], σ4, H6, its ++ [u6], k + 1, J7, T.keep _ _ _ e1 fun b hb o e => sb7.extBut b o (Q7 (by rw [<- hDD]; exact hlt b hb)) e, e2, ?_, e4, v1.append (.cons r6 .nil), w6⟩;rw [d7, List.push_toArray]
 have env1 : ({ newEnv scope C X.env.globals (zao X.env scope.names []) X.env.qual none .none (some X.env) 0 with scope := relabel scope X.env } : Env) = X'.env := by rw [em]; rfl
 have lp := loop _ rfl;rw [em] at lp;exact codeAny_compStart_list lp (T.self _ 0 _ _ _ st1 lp)
def zAi (wi : TI) (fr : List (Option Nat)) (g : TG) (tt : TT) (te : TE) : TE := fun σ H Q => wi σ H fun J H1 =>
 ∃ W, zej J g tt te (fun ys H' => ∀ p, H' p = none -> Q (.ref p) (upd H' p (.lst ys))) W /\ ∃ m, W 0 m [] (jH fr σ) H1
theorem yT {wi : TI} (c : CompOk X scope N' fr) (hc : X.calm = true) (hi : PI X tg iter wi) (hg : ∀ fp C s H, PG (vG X scope N' fp C s H) tg g) (ht : ∀ fp C s H, zAe (vG X scope N' fp C s H) ifs tt)
  (he : ∀ fp C s H, PE (vG X scope N' fp C s H) elt te) (hs : ∀ x, foldedSetIterable iter X.env x = pure x := by intro _; rfl) : PE X (.ListComp elt [⟨tg, iter, ifs, 0⟩] scope pos) (zAi wi fr g tt te) := by
 intro pins s σ H Q I h;rw [eval_ListComp];refine wpAny_comprehension_free (use := none) rfl hs (zcm (c.has I.ok)) c.kind c.names (thn (hi pins s σ H _ I h) fun v s1 h1 => thn h1 fun itv s2 h2 => ?_);obtain ⟨it, fp, tn, J, H2, e, I2, T, st2, f2, W, hW, h0⟩ := h2;subst e;refine zcl c hc I2 T st2 f2 hg ht he hW h0 ?_;rintro D C ys H' s' J3 ⟨m, hm⟩ ⟨f0, f1, _, f3, f4, f5⟩ nD fi;exact ⟨m, hm, fun h'' sb => ⟨.ref D, _, J3.turned (t' := s'.toks) (it := C) (fun b o hb e => sb.extBut b o hb e) f0 f1 f3 f4 f5, rfl, fi D nD⟩⟩
def zsw (i : Nat) (wi : TI) (fr : List (Option Nat)) (g : TG) (tt : TT) (te : TE) : TS := fun D σ H => wi σ H fun J H1 =>
 ∃ W, zej J g tt te (fun ys H' => ∀ p, H' p = none -> D.nx (σ.set i (some (.ref p))) (upd H' p (.lst ys))) W /\ ∃ m, W 0 m [] (jH fr σ) H1
theorem v9 {wi : TI} {i : Nat} {y : Str} {py spos : Pos} (hN : X.N.Nodup) (hi' : X.N[i]? = some y) (hy : Loc X.env.scope y) (c : CompOk X scope N' fr) (hc : X.calm = true) (hi : PI X tg iter wi) (hg : ∀ fp C s H, PG (vG X scope N' fp C s H) tg g) (ht : ∀ fp C s H, zAe (vG X scope N' fp C s H) ifs tt)
  (he : ∀ fp C s H, PE (vG X scope N' fp C s H) elt te) (hs : ∀ x, foldedSetIterable iter X.env x = pure x := by intro _; rfl)
  (hsw : swapsWith (.ListComp elt [⟨tg, iter, ifs, 0⟩] scope pos) (some (.Name y py)) spos.line X.env = pure true := by rfl) (hf : X.fn y = true \/ X.env.scope.names.lookup y = some .local := by first | exact .inl rfl | exact .inr rfl | assumption) :
  PS X (.Assign [.Name y py] (.ListComp elt [⟨tg, iter, ifs, 0⟩] scope pos) spos) (zsw i wi fr g tt te) := by
 intro pins s σ H D I h;rw [exec_Assign_Name_used _ _ _ _ hsw];refine Qq (wpAny_standAt (Qq ?_));show wpAny _ X.A (do let _ <- comprehension (.ListComp elt [⟨tg, iter, ifs, 0⟩] scope pos) scope X.env _ (newList []) false (eval iter X.env) (some (assign (.Name y py) X.env))) _ _ s;refine Qq (thn (wpAny_comprehension_free (use := some (assign (.Name y py) X.env)) (Q := fun _ s' => SP X pins D .next s') rfl hs (zcm (c.has I.ok)) c.kind c.names
  (thn (hi pins s σ H _ I h) fun v s1 h1 => thn h1 fun itv s2 h2 => ?_)) fun _ s' hq => Qv (Qv hq))
 obtain ⟨it, fp, tn, J, H2, e, I2, T, st2, f2, W, hW, h0⟩ := h2;subst e;refine zcl c hc I2 T st2 f2 hg ht he hW h0 ?_;rintro B C ys H' s' J3 ⟨m, hm⟩ ⟨f0, f1, _, f3, f4, f5⟩ nD fi;show wpAny _ X.A (assign (.Name y py) X.env (.ref B)) _ _ s';refine wpAny_assign_Name (zet J3 hN hi' hy (show RelV (.ref B) (.ref B) from rfl) (fun s4 J4 ⟨a, sb, ha⟩ => ?_) hf);have nCa : C ≠ a := by
  rcases ha with z | z
  ·rw [z]; exact f1
  ·exact fun q => f4 y a z q.symm
 exact ⟨m, hm.sameBut sb nCa, fun h'' sb2 => ⟨_, _, J4.turned (t' := s4.toks) (it := C) (fun b o hb e => sb2.extBut b o hb e) f0 f1 f3 f4 f5, fi B nD⟩⟩
end
section
variable {X : Cx}
theorem zjb : xE X (.builtin "isinstance") (fun xs H Q => ∃ x c t u b, xs = [x, c] /\ RelV c u /\ zcq X.K H x t /\ PySem.W.kitOne X.K t u = some b /\ Q (.bl b) H) := by
 intro pins s σ H xs us Q I r h;obtain ⟨x, c, t, u, b, rfl, rc, ty, e, q⟩ := h;obtain ⟨u1, u2, rfl, r1, r2⟩ := Vals.two r;have hu : u2 = u := by
  cases c <;> first
   | exact (show u2 = _ from r2).trans (show u = _ from rc).symm
   | skip
  all_goals (exfalso; obtain ⟨_, rfl⟩ := rc; unfold PySem.W.kitOne PySem.W.kitCls at e; split at e <;> first | (cases ty <;> simp_all) | (simp at e))
 subst hu;exact zqq I r1 ty e fun tk => ⟨.bl b, H, I.tok tk, rfl, q⟩
inductive SameD (K : PySem.W.Frag) (H : Hp) : Nat -> V -> V -> Prop
 | flat {n : Nat} {x : V} (f : j5 x = true) : SameD K H n x x
 | tup {n : Nat} {a b : Addr} {xs ys : List V} (ha : SqT K H a xs) (hb : SqT K H b ys) (hl : xs.length = ys.length) (h : ∀ (i : Nat) (x y : V), xs[i]? = some x -> ys[i]? = some y -> SameD K H n x y) : SameD K H (n + 1) (.ref a) (.ref b)
 | lst {n : Nat} {a b : Addr} {xs ys : List V} (ha : SqL K H a xs) (hb : SqL K H b ys) (hl : xs.length = ys.length) (h : ∀ (i : Nat) (x y : V), xs[i]? = some x -> ys[i]? = some y -> SameD K H n x y) : SameD K H (n + 1) (.ref a) (.ref b)
theorem zuj {x : V} (f : j5 x = true) : eqV x x = true := by
 cases x <;> first | (exact absurd (show false = true from f) Q1) | rfl | (simp [eqV])
theorem xC (n : Nat) (e : Nat -> Bool) (h : ∀ i, e i = true) : (List.range n).all e = true := by
 rw [Jb]; intro i _; exact h i
theorem jB {A : Around} : A.in1.units <= A.units + 1 := by
 first
  | exact Qw _
  | exact Ws _
  | (simp [Around.in1])
theorem SameD.rc {pins : List (Addr × Obj)} {σ : St} {H : Hp} {s : Shared} (I : Inv X pins σ H s) {n : Nat} {x y : V} (h : SameD X.K H n x y) : ∀ (A : Around), A.units + n < cLine -> ∀ (u v : Value), RelV x u -> RelV y v -> SeqAt.EqAt A s u v true := by
 induction h with
 | flat f => intro A hu u v ru rv; have := znj (A := A) (s := s) ru rv f f; rw [zuj f] at this; exact this
 | @tup n a b xs ys ha hb hl _ ih =>
  intro A hu u v ru rv;cases (show u = Value.ref a from ru)
  cases (show v = Value.ref b from rv)
  by_cases e : a = b
  ·subst e; exact SeqAt.EqAt.same _
  ·obtain ⟨its, r1, t1, _⟩ := I.tuple ha;obtain ⟨its2, r2, t2, _⟩ := I.tuple hb;have hz : its.toArray.size = its2.toArray.size := by simp [<- r1.length, <- r2.length, hl]
   refine SeqAt.EqAt.of_refs e ?_;have q := SeqAt.RcAt.tuples (e := fun _ => true) (A := A) t1 t2 (by lia) (fun j h1 h2 => ?_)
   ·rw [xC _ _ (fun _ => rfl), hz] at q
    simpa using q
   ·have l1 : j < xs.length := by have := r1.length; simp at h1; lia
    have l2 : j < ys.length := by lia
    obtain ⟨u1, e1, q1⟩ := r1.get (i := j) (x := xs[j]) (by simp [l1]);obtain ⟨u2, e2, q2⟩ := r2.get (i := j) (x := ys[j]) (by simp [l2]);have w1 : its.toArray[j] = u1 := by have := Qf.mp e1; simpa using this.2
    have w2 : its2.toArray[j] = u2 := by have := Qf.mp e2; simpa using this.2
    rw [w1, w2];exact ih j _ _ (by simp [l1]) (by simp [l2]) A.in1 (by have := @jB A; lia) _ _ q1 q2
 | @lst n a b xs ys ha hb hl _ ih =>
  intro A hu u v ru rv;cases (show u = Value.ref a from ru)
  cases (show v = Value.ref b from rv)
  by_cases e : a = b
  ·subst e; exact SeqAt.EqAt.same _
  ·obtain ⟨its, r1, t1, _⟩ := I.list ha;obtain ⟨its2, r2, t2, _⟩ := I.list hb;have hz : its.toArray.size = its2.toArray.size := by simp [<- r1.length, <- r2.length, hl]
   refine SeqAt.EqAt.of_refs e ?_;have q := SeqAt.RcAt.lists (e := fun _ => true) (A := A) t1.isList t2.isList hz (by lia) (fun j h1 h2 => ?_)
   ·rw [xC _ _ (fun _ => rfl)] at q;exact q
   ·have l1 : j < xs.length := by have := r1.length; simp at h1; lia
    have l2 : j < ys.length := by lia
    obtain ⟨u1, e1, q1⟩ := r1.get (i := j) (x := xs[j]) (by simp [l1]);obtain ⟨u2, e2, q2⟩ := r2.get (i := j) (x := ys[j]) (by simp [l2]);have w1 : its.toArray[j] = u1 := by have := Qf.mp e1; simpa using this.2
    have w2 : its2.toArray[j] = u2 := by have := Qf.mp e2; simpa using this.2
    rw [w1, w2];exact ih j _ _ (by simp [l1]) (by simp [l2]) A.in1 (by have := @jB A; lia) _ _ q1 q2
def zca (K : PySem.W.Frag) (out : Bool) : R2 := fun x y H Q => ∃ a b xs ys n, x = .ref a /\ y = .ref b /\ ((SqT K H a xs /\ SqT K H b ys) \/ (SqL K H a xs /\ SqL K H b ys)) /\ xs.length = ys.length /\ n <= 64 /\
 (∀ (i : Nat) (x y : V), xs[i]? = some x -> ys[i]? = some y -> SameD K H n x y) /\ Q (.bl out) H
theorem v8 {pins : List (Addr × Obj)} {σ : St} {H : Hp} {s : Shared} (I : Inv X pins σ H s) {A : Around} {n : Nat} {xs ys : List V} {its its2 : List Value} (hu : A.units + n < cLine) (r1 : Vals xs its) (r2 : Vals ys its2) (hl : xs.length = ys.length)
  (h : ∀ (i : Nat) (x y : V), xs[i]? = some x -> ys[i]? = some y -> SameD X.K H n x y) : ∀ j (h1 : j < its.toArray.size) (h2 : j < its2.toArray.size), SeqAt.EqAt A s its.toArray[j] its2.toArray[j] true := by
 intro j h1 h2;have l1 : j < xs.length := by have := r1.length; simp at h1; lia
 have l2 : j < ys.length := by lia
 obtain ⟨u1, e1, q1⟩ := r1.get (i := j) (x := xs[j]) (by simp [l1]);obtain ⟨u2, e2, q2⟩ := r2.get (i := j) (x := ys[j]) (by simp [l2]);have w1 : its.toArray[j] = u1 := by have := Qf.mp e1; simpa using this.2
 have w2 : its2.toArray[j] = u2 := by have := Qf.mp e2; simpa using this.2
 rw [w1, w2];exact (h j _ _ (by simp [l1]) (by simp [l2])).rc I A hu _ _ q1 q2
theorem zDc (hu : X.A.units + 66 < cLine) : OpR X (compareOp .Eq) (zca X.K true) := by
 intro pins s σ H x y v u Q I rx ry h;obtain ⟨a, b, xs, ys, n, rfl, rfl, hk, hl, hn, hs, q⟩ := h;cases (show v = Value.ref a from rx)
 cases (show u = Value.ref b from ry)
 have hu1 : X.A.in1.units + n < cLine := by have := @jB X.A; lia
 rcases hk with ⟨ha, hb⟩ | ⟨ha, hb⟩
 ·obtain ⟨its, r1, t1, _⟩ := I.tuple ha;obtain ⟨its2, r2, t2, _⟩ := I.tuple hb;have hz : its.toArray.size = its2.toArray.size := by simp [<- r1.length, <- r2.length, hl]
  refine SeqAt.eq_tupleAt (e := fun _ => true) t1 t2 (by lia) (v8 I hu1 r1 r2 hl hs) ?_;rw [xC _ _ (fun _ => rfl), hz];exact ⟨.bl true, H, I, by simp [RelV], q⟩
 ·obtain ⟨its, r1, t1, _⟩ := I.list ha;obtain ⟨its2, r2, t2, _⟩ := I.list hb;have hz : its.toArray.size = its2.toArray.size := by simp [<- r1.length, <- r2.length, hl]
  refine SeqAt.eq_listAt (e := fun _ => true) t1.isList t2.isList hz (by lia) (v8 I hu1 r1 r2 hl hs) ?_;rw [xC _ _ (fun _ => rfl)];exact ⟨.bl true, H, I, rfl, q⟩
theorem zDa (hu : X.A.units + 66 < cLine) : OpR X (compareOp .NotEq) (zca X.K false) := by
 intro pins s σ H x y v u Q I rx ry h;obtain ⟨a, b, xs, ys, n, rfl, rfl, hk, hl, hn, hs, q⟩ := h;cases (show v = Value.ref a from rx)
 cases (show u = Value.ref b from ry)
 have hu1 : X.A.in1.units + n < cLine := by have := @jB X.A; lia
 rcases hk with ⟨ha, hb⟩ | ⟨ha, hb⟩
 ·obtain ⟨its, r1, t1, _⟩ := I.tuple ha;obtain ⟨its2, r2, t2, _⟩ := I.tuple hb;have hz : its.toArray.size = its2.toArray.size := by simp [<- r1.length, <- r2.length, hl]
  refine EqBoolInt.of_rcne (SeqAt.RcNeAt.tuples (e := fun _ => true) t1 t2 (by lia) (v8 I hu1 r1 r2 hl hs)) ?_;rw [xC _ _ (fun _ => rfl), hz];exact ⟨.bl false, H, I, by simp [RelV], q⟩
 ·obtain ⟨its, r1, t1, _⟩ := I.list ha;obtain ⟨its2, r2, t2, _⟩ := I.list hb;have hz : its.toArray.size = its2.toArray.size := by simp [<- r1.length, <- r2.length, hl]
  refine EqBoolInt.of_rcne (SeqAt.RcNeAt.lists (e := fun _ => true) t1.isList t2.isList hz (by lia) (v8 I hu1 r1 r2 hl hs)) ?_;rw [xC _ _ (fun _ => rfl)];exact ⟨.bl false, H, I, rfl, q⟩
theorem zag {h h' : Heap} {o : Obj} (hk : ∀ b u, b ∉ [h.objs.size] -> (h.push o).get? b = some u -> h'.get? b = some u) : ∀ b u, h.get? b = some u -> h'.get? b = some u := fun b u e =>
 hk b u (fun hm => absurd (Qt e) (by rw [Qx.mp hm]; exact Wn _)) (Qz _ e)
theorem zlj {bs : List Bool} {its : List Value} (r : Vals (bs.map V.bl) its) {i : Nat} {v : Value} (e : its.toArray[i]? = some v) : v = .bool (bs.getD i false) := by
 have e' : its[i]? = some v := by simpa using e
 have hl : i < its.length := (Qf.mp e').1;have hb : i < bs.length := by have := r.length; rw [Qj] at this; lia
 obtain ⟨u, e1, q⟩ := r.get (i := i) (x := V.bl bs[i]) (by simp [hb]);rw [e1] at e';cases e'
 have e3 : v = Value.bool bs[i] := q;rw [e3];simp [List.getD, hb]
theorem zdp (bs : List Bool) : (List.range bs.length).all (fun i => bs.getD i false) = bs.all id := by
 rw [Jp, Jb, Jb];constructor
 ·intro h x hx;obtain ⟨i, hi, e⟩ := List.mem_iff_getElem.mp hx;have := h i (Q0.mpr hi);simp [List.getD, hi, e] at this;exact this
 ·intro h i hi;have hi' := Q0.mp hi;have := h bs[i] (Wc hi')
  simpa [List.getD, hi'] using this
theorem zva (hc : X.calm = true) : xE X (.builtin "all") (fun xs H Q => ∃ (p : Addr) (bs : List Bool), xs = [.ref p] /\ SqL X.K H p (bs.map V.bl) /\ Q (.bl (bs.all id)) H) := by
 intro pins s σ H xs us Q I r h;obtain ⟨p, bs, rfl, hp, q⟩ := h;obtain ⟨u, rfl, ru⟩ := Vals.one r;cases (show u = Value.ref p from ru)
 obtain ⟨its, r1, t1, _⟩ := I.list hp;have hh : X.A.in1.handled = none := I.ok.hd hc;have hlt : p < s.heap.objs.size := by obtain ⟨_, e, _⟩ := t1.isList; exact Qt e
 refine call_all_walk (wpAny_pyIter_list t1.isList ⟨_, _, _, _, _, _, fun i => bs.getD i false, rfl, Walks.list hh _ p (Q7 hlt) its.toArray, ⟨⟨_, Qb _ rfl, rfl, rfl⟩, t1.isList.push _⟩, ?_, ?_⟩)
 ·intro i v s' Q' E' e hq;rw [zlj r1 e];exact wpAny_truthy_bool hq
 ·intro h' tk hk;have hl : its.toArray.size = bs.length := by have := r1.length; simp at this ⊢; lia
  rw [hl, zdp];exact ⟨.bl _, H, I.kept (zag hk), rfl, q⟩
end
section
variable {X : Cx} {pins : List (Addr × Obj)} {σ : St} {H : Hp} {s : Shared}
theorem Inv.turnM {ch : List Addr} {t' : Nat} {h' : Heap} (I : Inv X pins σ H s) (hf : ∀ b ∈ ch, zfu X pins H b) (k : ∀ b u, b ∉ ch -> s.heap.get? b = some u -> h'.get? b = some u) : Inv X pins σ H { s with heap := h', toks := t' } := by
 have nch : ∀ b u, H b = some u -> b ∉ ch := fun b u e z => by have := (hf b z).1; rw [this] at e; cases e
 refine I.step (g' := s.gens) (d' := s.drawn) (ch := ch) (fun b hb => ⟨(hf b hb).2.2.2.1, (hf b hb).2.1, (hf b hb).2.2.2.2.1, (hf b hb).2.2.2.2.2⟩) (fun b o _ _ hc e _ => k b o hc e) (fun b o _ _ hc e _ => ⟨o.slots, k b o hc e⟩) (fun _ _ _ _ n => n)
  (fun b o hc e => ⟨o, k b o hc e⟩) (fun _ _ e => e) (fun _ _ _ e => e) (fun b ps e => ⟨#[], by rw [e]; simp⟩) (fun m hm => ?_) (fun b u e => ?_) I.bare
 ·obtain ⟨o, es, ep, ho, r⟩ := hm;exact ⟨o, es, ep, k _ o (fun z => (hf _ z).2.1 rfl) ho, r⟩
 ·refine (I.hok b u e).stay (fun c v hc q => k c v ?_ q) (fun _ q => q) fun _ _ q => q;rcases hc with z | z
  ·rw [z]; exact nch b u e
  ·exact nch c _ z
theorem Inv.turnNew {ch : List Addr} {T : Addr} {o : HO} {t' : Nat} {h' : Heap} (I : Inv X pins σ H s) (hf : ∀ b ∈ ch, zfu X pins H b) (k : ∀ b u, b ∉ ch -> s.heap.get? b = some u -> h'.get? b = some u) (hT : s.heap.objs.size <= T)
  (new : ObjOk X.prog X.w (upd H T o) h' T o) : Inv X pins σ (upd H T o) { s with heap := h', toks := t' } := by
 have nch : ∀ b u, H b = some u -> b ∉ ch := fun b u e z => by have := (hf b z).1; rw [this] at e; cases e
 have nT : H T = none := I.hok.fresh hT;have neT : ∀ b u, s.heap.get? b = some u -> b ≠ T := fun b u e => Q7 (Jv (Qt e) hT);refine I.step (g' := s.gens) (d' := s.drawn) (ch := ch) (fun b hb => ⟨(hf b hb).2.2.2.1, (hf b hb).2.1, (hf b hb).2.2.2.2.1, (hf b hb).2.2.2.2.2⟩) (fun b o _ _ hc e _ => k b o hc e) (fun b o _ _ hc e _ => ⟨o.slots, k b o hc e⟩) (fun b u _ e n => by rw [zU (neT b u e)]; exact n)
  (fun b o hc e => ⟨o, k b o hc e⟩) (fun b xs e => by rw [zU (zP e nT)]; exact e) (fun b o u e => by rw [zU (zP e nT)]; exact e) (fun b ps e => ⟨#[], by rw [zU (zP e nT), e]; simp⟩) (fun m hm => ?_) (fun b u e => ?_) I.bare
 ·obtain ⟨o, es, ep, ho, r⟩ := hm;exact ⟨o, es, ep, k _ o (fun z => (hf _ z).2.1 rfl) ho, r⟩
 ·by_cases hb : b = T
  ·subst hb;rw [zC] at e;cases e
   exact new
  ·rw [zU hb] at e;refine (I.hok b u e).stay (fun c v hc q => k c v ?_ q) (fun c r => by rw [zU (zP r nT)]; exact r) fun c xs r => by rw [zU (zP r nT)]; exact r
   rcases hc with z | z
   ·rw [z]; exact nch b u e
   ·exact nch c _ z
end
inductive Kd | l | t
def ItAt (k : Kd) (h : Heap) (it a : Addr) (i : Nat) : Prop := match k with | .l => h.IsListIter it a i | .t => h.IsTupleIter it a i
def SqK (k : Kd) (K : PySem.W.Frag) (H : Hp) (a : Addr) (xs : List V) : Prop := match k with | .l => SqL K H a xs | .t => SqT K H a xs
def zei (k : Kd) (h : Heap) (a : Addr) (its : List Value) : Prop := match k with | .l => h.IsList a its.toArray | .t => h.IsTuple a its.toArray
theorem Inv.seq {X : Cx} {pins : List (Addr × Obj)} {σ : St} {H : Hp} {s : Shared} (I : Inv X pins σ H s) {k : Kd} {a : Addr} {xs : List V} (h : SqK k X.K H a xs) : ∃ its : List Value, Vals xs its /\ zei k s.heap a its /\ xs.length <= sizeLine := by
 cases k with
 | l => obtain ⟨its, r, t, z⟩ := I.list h; exact ⟨its, r, t.isList, z⟩
 | t => obtain ⟨its, r, t, z⟩ := I.tuple h; exact ⟨its, r, t, z⟩
theorem ItAt.kept {k : Kd} {h h' : Heap} {it a : Addr} {i : Nat} (q : ItAt k h it a i) (e : ∀ o, h.get? it = some o -> h'.get? it = some o) : ItAt k h' it a i := by
 cases k with
 | l => obtain ⟨o, ho, r⟩ := (show h.IsListIter it a i from q); exact ⟨o, e _ ho, r⟩
 | t => obtain ⟨o, ho, r⟩ := (show h.IsTupleIter it a i from q); exact ⟨o, e _ ho, r⟩
theorem ItAt.obj {k : Kd} {h : Heap} {it a : Addr} {i : Nat} (q : ItAt k h it a i) : ∃ o, h.get? it = some o /\ ∀ v, o.data ≠ .cell v := by
 cases k with
 | l => obtain ⟨o, ho, _, d⟩ := (show h.IsListIter it a i from q); exact ⟨o, ho, fun v z => by rw [d] at z; cases z⟩
 | t => obtain ⟨o, ho, _, d⟩ := (show h.IsTupleIter it a i from q); exact ⟨o, ho, fun v z => by rw [d] at z; cases z⟩
section
variable {prog : Program} {w : World} {A : Around} {E : Value -> Shared -> Prop} {s : Shared}
theorem zts {it t : Addr} {i : Nat} {its : List Value} {x : Value} {Q : Value -> Shared -> Prop} (hi : s.heap.IsTupleIter it t i) (ht : s.heap.IsTuple t its.toArray) (hx : its[i]? = some x)
  (q : ∀ h', h'.IsTupleIter it t (i + 1) -> Heap.SameBut it s.heap h' -> Q x { s with heap := h' }) : wpAny (model prog w) A (Builtin.SmallTypes.nextOf (.ref it)) Q E s := by
 obtain ⟨oi, gi, ci, di⟩ := id hi;obtain ⟨ot, gt, _, nt, dt⟩ := ht;have hx' : its.toArray[i]? = some x := by simpa using hx
 unfold Builtin.SmallTypes.nextOf;refine Qq (wpAny_callSpecial?_slot (name := Str.ofString "__next__") hi.typeIs F.slot_tuple_iterator_next (Jd F.slot_tuple_iterator_next hi.typeIs F.entry_tuple_iterator_next ?_ (F.args_tuple_iterator_next_1 _)));show wpAny _ _ (field (Value.ref it) 0 >>= _) _ _ s;refine Qq (wpAny_field gi di (x := Value.ref t) rfl ?_);rw [if_neg (show ¬ ((Value.ref t == Value.none) = true) by intro z; cases z)];refine Qq (wpAny_field gi di (x := Value.int i 0) rfl ?_);refine Qq (wpAny_seqItems gt dt ?_);simp only [Q4, hx'];refine Qq (wpAny_setField gi di (by simp) (Qv ⟨x, rfl, Qv (q _ ?_ (Heap.SameBut.update ..))⟩));refine ⟨_, Wt _ gi (Obj.isFreed_of_fields (Obj.data_mapFields di _)), (Obj.cls_mapFields ..).trans ci, ?_⟩;rw [Obj.data_mapFields di];simp [rawInt]
theorem zzd {it t : Addr} {i : Nat} {its : List Value} {Q : Value -> Shared -> Prop} (hh : A.handled = none) (hi : s.heap.IsTupleIter it t i) (ht : s.heap.IsTuple t its.toArray) (hx : its.length <= i)
  (q : ∀ h' e, Heap.ExtBut it s.heap h' -> (∃ o, h'.get? e = some o /\ o.cls = .type "StopIteration") -> E (.ref e) { s with heap := h' }) : wpAny (model prog w) A (Builtin.SmallTypes.nextOf (.ref it)) Q E s := by
 obtain ⟨oi, gi, ci, di⟩ := id hi;obtain ⟨ot, gt, _, nt, dt⟩ := ht;have hx' : its.toArray[i]? = none := by simpa using hx
 unfold Builtin.SmallTypes.nextOf;refine Qq (wpAny_callSpecial?_slot (name := Str.ofString "__next__") hi.typeIs F.slot_tuple_iterator_next (Jd F.slot_tuple_iterator_next hi.typeIs F.entry_tuple_iterator_next ?_ (F.args_tuple_iterator_next_1 _)));show wpAny _ _ (field (Value.ref it) 0 >>= _) _ _ s;refine Qq (wpAny_field gi di (x := Value.ref t) rfl ?_);rw [if_neg (show ¬ ((Value.ref t == Value.none) = true) by intro z; cases z)];refine Qq (wpAny_field gi di (x := Value.int i 0) rfl ?_);refine Qq (wpAny_seqItems gt dt ?_);simp only [Q4, hx'];refine Qq (wpAny_rule (Qq (wpAny_setField gi di (by simp) (Qq ?_))));simp only [newExc, newTuple];refine Qq (Jg (Qq (m := firstArgMember _ _) (wpAny_of_eq (a := Value.none) ?_ (Jg ?_ (by size_fits)))) (by size_fits))
 ·first | rfl | (simp only [firstArgMember]; rfl)
 simp only [raiseNew];refine Qq (wpAny_handled ?_)
 first | rw [show A.in1.handled = none from hh] | rw [hh]
 exact Qq (Qv (wpAny_throw (q _ _ (((Heap.SameBut.update ..).extBut.push _).push _) ⟨_, Qb _ rfl, rfl⟩)))
theorem ztu {k : Kd} {it a : Addr} {i : Nat} {its : List Value} {x : Value} {Q : Value -> Shared -> Prop} (hi : ItAt k s.heap it a i) (hs : zei k s.heap a its) (hx : its[i]? = some x)
  (q : ∀ h', ItAt k h' it a (i + 1) -> Heap.SameBut it s.heap h' -> Q x { s with heap := h' }) : wpAny (model prog w) A (Builtin.SmallTypes.nextOf (.ref it)) Q E s := by
 cases k with
 | l => exact wpAny_nextOf_list_item hi hs (by simpa using hx) q
 | t => exact zts hi hs hx q
theorem zzf {k : Kd} {it a : Addr} {i : Nat} {its : List Value} {Q : Value -> Shared -> Prop} (hh : A.handled = none) (hi : ItAt k s.heap it a i) (hs : zei k s.heap a its) (hx : its.length <= i)
  (q : ∀ h' e, Heap.ExtBut it s.heap h' -> (∃ o, h'.get? e = some o /\ o.cls = .type "StopIteration") -> E (.ref e) { s with heap := h' }) : wpAny (model prog w) A (Builtin.SmallTypes.nextOf (.ref it)) Q E s := by
 cases k with
 | l => exact wpAny_nextOf_list_end hh hi hs (by simpa using hx) q
 | t => exact zzd hh hi hs hx q
end
open AutoSeq1 (wpAny_loadPart')
section
variable {prog : Program} {w : World} {A : Around} {E : Value -> Shared -> Prop} {s : Shared}
theorem zqu {k : Kd} {e it a : Addr} {i : Nat} {its : List Value} {x old : Value} {Q : Value -> Shared -> Prop} (he : IsEnum s.heap e it i old) (hi : ItAt k s.heap it a i) (hs : zei k s.heap a its) (hx : its[i]? = some x) (ne : e ≠ it)
  (q : ∀ h', IsEnumOut h' e it ((i : Int) + 1) x s.heap.objs.size -> ItAt k h' it a (i + 1) -> h'.get? s.heap.objs.size = some { cls := .type "tuple", data := .seq #[.int i s.toks, x] } ->
   (∀ b o, b ≠ e -> b ≠ it -> s.heap.get? b = some o -> h'.get? b = some o) -> Q (.ref s.heap.objs.size) { s with heap := h', toks := s.toks + 1 }) :
  wpAny (model prog w) A (Builtin.«enumerate.__next__» ⟨[.ref e], []⟩) (fun fin s' => ∃ v, fin = .done (.ret v) /\ Q v s') E s := by
 obtain ⟨hp, g, d, tk, os⟩ := s;show wpAny _ _ (field (Value.ref e) 2 >>= _) _ _ _;refine Qq (wpAny_field he rfl (x := Value.ref it) rfl (Qq (ztu hi hs hx fun g1 i1 b1 => ?_)))
 replace b1 : Heap.SameBut it hp g1 := b1
 have e1 : IsEnum g1 e it i old := (b1.2 e ne).trans he;refine Qq (wpAny_field (s := ⟨g1, g, d, tk, os⟩) e1 rfl (x := rawInt i) rfl (Qq (wpAny_field (s := ⟨g1, g, d, tk, os⟩) e1 rfl (x := Value.none) rfl ?_)));refine Qq (wpAny_mkInt (Qq (wpAny_setField_rec (s := ⟨g1, g, d, tk + 1, os⟩) e1 (by simp) fun g2 e2 b2 => ?_)))
 replace b2 : Heap.SameBut e g1 g2 := b2
 replace e2 : IsEnum g2 e it ((i : Int) + 1) old := e2
 refine Qq (wpAny_setField_rec (s := ⟨g2, g, d, tk + 1, os⟩) e2 (by simp) fun g3 e3 b3 => ?_)
 replace b3 : Heap.SameBut e g2 g3 := b3
 replace e3 : IsEnum g3 e it ((i : Int) + 1) old := e3
 refine Qq (wpAny_newTuple ?_);have hz : g3.objs.size = hp.objs.size := by rw [b3.1, b2.1, b1.1]
 have el : e < hp.objs.size := Qt he;obtain ⟨oi, gi, _⟩ := hi.obj;have il : it < hp.objs.size := Qt gi;have e4 : IsEnum (g3.push { cls := .type "tuple", data := .seq #[.int i tk, x] }) e it ((i : Int) + 1) old := Qz _ e3;have t4 : (g3.push { cls := .type "tuple", data := .seq #[.int i tk, x] }).get? hp.objs.size = some { cls := .type "tuple", data := .seq #[.int i tk, x] } := by rw [<- hz]; exact Qb _ rfl
 have k4 : ∀ b o, b ≠ e -> b ≠ it -> hp.get? b = some o -> (g3.push { cls := .type "tuple", data := .seq #[.int i tk, x] }).get? b = some o := fun b o h1 h2 h3 =>
  Qz _ (b3.extBut b o h1 (b2.extBut b o h1 (b1.extBut b o h2 h3)))
 have i4 : ItAt k (g3.push { cls := .type "tuple", data := .seq #[.int i tk, x] }) it a (i + 1) := i1.kept fun o h => Qz _ (b3.extBut it o ne.symm (b2.extBut it o ne.symm h));show wpAny _ _ (Builtin.SmallTypes.ownedTupleIsFree (Value.ref e) >>= _) _ _ ⟨g3.push { cls := .type "tuple", data := .seq #[.int i tk, x] }, g, d, tk + 1, os⟩;rw [hz];generalize g3.push { cls := .type "tuple", data := .seq #[.int i tk, x] } = g4 at e4 t4 k4 i4;refine Qq ?_;unfold Builtin.SmallTypes.ownedTupleIsFree;refine Qq (wpAny_field e4 rfl (x := Value.none) rfl (Qv ?_));simp only [if_true];refine Qq (wpAny_rule (Qq (wpAny_field e4 rfl (x := old) rfl (Qq (wpAny_setField_rec e4 (by simp) fun g5 e5 b5 => ?_)))))
 replace b5 : Heap.SameBut e g4 g5 := b5
 replace e5 : IsEnum g5 e it ((i : Int) + 1) x := e5
 refine Qq ?_;unfold Builtin.SmallTypes.ownedTupleHandOut;refine Qq (wpAny_setField_rec e5 (by simp) fun g6 e6 b6 => ?_)
 replace b6 : Heap.SameBut e g5 g6 := b6
 replace e6 : IsEnumOut g6 e it ((i : Int) + 1) x hp.objs.size := e6
 refine wpAny_setField_rec e6 (by simp) fun g7 e7 b7 => ?_
 replace b7 : Heap.SameBut e g6 g7 := b7
 replace e7 : IsEnumOut g7 e it ((i : Int) + 1) x hp.objs.size := e7
 have up : ∀ b o, b ≠ e -> g4.get? b = some o -> g7.get? b = some o := fun b o h1 h2 => b7.extBut b o h1 (b6.extBut b o h1 (b5.extBut b o h1 h2));exact Qq (wpAny_letGo (Qv ⟨_, rfl, q g7 e7 (i4.kept fun o h => up it o ne.symm h) (up _ _ (Nat.ne_of_gt el) t4) fun b o h1 h2 h3 => up b o h1 (k4 b o h1 h2 h3)⟩))
theorem zqv {k : Kd} {e it a : Addr} {i : Nat} {its : List Value} {x old : Value} {Q : Option Value -> Shared -> Prop} (he : IsEnum s.heap e it i old) (hi : ItAt k s.heap it a i) (hs : zei k s.heap a its) (hx : its[i]? = some x) (ne : e ≠ it)
  (q : ∀ h', IsEnumOut h' e it ((i : Int) + 1) x s.heap.objs.size -> ItAt k h' it a (i + 1) -> h'.get? s.heap.objs.size = some { cls := .type "tuple", data := .seq #[.int i s.toks, x] } ->
   (∀ b o, b ≠ e -> b ≠ it -> s.heap.get? b = some o -> h'.get? b = some o) -> Q (some (.ref s.heap.objs.size)) { s with heap := h', toks := s.toks + 1 }) :
  wpAny (model prog w) A (pyNext (.ref e)) Q E s := by
 have ty : s.TypeIs (.ref e) "enumerate" := ⟨_, he, rfl⟩;unfold pyNext;exact Qq (wpAny_attempt (wpAny_callSpecial?_slot (name := Str.ofString "__next__") ty F.slot_enumerate_next (Jd F.slot_enumerate_next ty F.entry_enumerate_next
   (zqu he hi hs hx ne fun h' a b c d => Qv (q h' a b c d)) (F.args_enumerate_next_1 _))))
theorem zqw {k : Kd} {e it a : Addr} {i : Nat} {its : List Value} {old : Value} {Q : Option Value -> Shared -> Prop} (hh : A.handled = none) (he : IsEnum s.heap e it i old) (hi : ItAt k s.heap it a i) (hs : zei k s.heap a its) (hx : its.length <= i)
  (q : ∀ h', Heap.ExtBut it s.heap h' -> Q none { s with heap := h' }) : wpAny (model prog w) A (pyNext (.ref e)) Q E s := by
 have ty : s.TypeIs (.ref e) "enumerate" := ⟨_, he, rfl⟩;unfold pyNext;refine Qq (wpAny_attempt (wpAny_callSpecial?_slot (name := Str.ofString "__next__") ty F.slot_enumerate_next (Jd F.slot_enumerate_next ty F.entry_enumerate_next ?_ (F.args_enumerate_next_1 _))));show wpAny _ _ (field (Value.ref e) 2 >>= _) _ _ _;refine Qq (wpAny_field he rfl (x := Value.ref it) rfl (Qq (zzf hh hi hs hx fun h' z k1 k2 => ?_)));obtain ⟨o, ho, hc⟩ := k2;exact Qq (wpAny_isInstance (T := "StopIteration") (b := true) ⟨o, ho, hc⟩ isSubtype_stop (Qv (q _ k1)))
theorem zfz (t : Addr) (items : Array Value) (n : Nat) (dct : Option Addr) (sl : Array (Option Value)) :
  Meets (Builtin.«enumerate.__new__» ⟨[.type "enumerate", .ref t], []⟩) (fun _ R s => s.heap.get? t = some { cls := .type "tuple", dict := dct, data := .seq items n, slots := sl } /\
   R (.ok (.ret (.ref (s.heap.push { cls := .type "tuple_iterator", data := .fields #[.ref t, .int 0 0] }).objs.size)))
    { s with heap := (s.heap.push { cls := .type "tuple_iterator", data := .fields #[.ref t, .int 0 0] }).push { cls := .type "enumerate", data := .fields #[.none, .bool false, .ref s.heap.objs.size, rawInt 0, .none, .none] } }) :=
 .of_wp fun prog w A R s h => by
  obtain ⟨hp, g, d, tk, os⟩ := s;obtain ⟨ht, h⟩ := h;have hsub := sub_enumerate;have hT : Heap.IsTuple (Shared.heap ⟨hp, g, d, tk, os⟩) t items := ⟨_, ht, rfl, n, rfl⟩
  wp_walk using wpAny_loadPart' ht
  refine wpAny_stack_any fun st => Qv ?_;split
  ·rename_i c _ _ _ _ _
   cases (c == Value.type "enumerate") <;>
   ·wp_walk using wpAny_loadPart' ht, wpAny_pyIter_tuple hT
    exact ⟨_, rfl, h⟩
  ·wp_walk using wpAny_loadPart' ht, wpAny_pyIter_tuple hT
   exact ⟨_, rfl, h⟩
theorem zri {k : Kd} {a : Addr} {its : List Value} {Q : Value -> Shared -> Prop} (hs : zei k s.heap a its)
  (q : ∀ h', IsEnum h' (s.heap.objs.size + 1) s.heap.objs.size 0 .none -> ItAt k h' s.heap.objs.size a 0 -> (∀ b o, s.heap.get? b = some o -> h'.get? b = some o) -> Q (.ref (s.heap.objs.size + 1)) { s with heap := h' }) :
  wpAny (model prog w) A (call (.type "enumerate") [.ref a]) Q E s := by
 cases k with
 | l => exact call_enumerate_list hs fun h' a b _ d => q h' a b d
 | t =>
  obtain ⟨⟨c, dct, dt, sl⟩, ht, hc, n, hd⟩ := (show s.heap.IsTuple a its.toArray from hs)
  replace hc : c = .type "tuple" := hc
  replace hd : dt = .seq its.toArray n := hd
  subst hc hd;refine callType_new F.called_enumerate (by decide) (F.typeCall_enumerate_1 _) (F.newCall_enumerate_1 _) (fun obj => F.args_object_init_2 obj _) F.entry_enumerate_new (zfz a its.toArray n dct sl) ⟨ht, ?_⟩;have z : (s.heap.push { cls := .type "tuple_iterator", data := .fields #[.ref a, .int 0 0] }).objs.size = s.heap.objs.size + 1 := Heap.size_push ..;show _ /\ _;have e1 := Qb (s.heap.push { cls := .type "tuple_iterator", data := .fields #[.ref a, .int 0 0] }) (o := { cls := .type "enumerate", data := .fields #[.none, .bool false, .ref s.heap.objs.size, rawInt 0, .none, .none] }) rfl;rw [z] at e1 ⊢;exact ⟨⟨_, e1, rfl⟩, q _ e1 ⟨_, Qz _ (Qb _ rfl), rfl, rfl⟩ fun b o x => Qz _ (Qz _ x)⟩
end
def ItE (k : Kd) (K : PySem.W.Frag) (a : Addr) : It :=
 ⟨fun i H => ∃ xs x, SqK k K H a xs /\ xs[i]? = some x, fun i H x H' => ∃ p y, H p = none /\ x = .ref p /\ (∀ xs, SqK k K H a xs -> xs[i]? = some y) /\ H' = upd H p (.tup [.int i, y]), fun i H => ∃ xs, SqK k K H a xs /\ xs.length <= i⟩
theorem Inv.seq_inj {X : Cx} {pins : List (Addr × Obj)} {σ : St} {H : Hp} {s : Shared} (I : Inv X pins σ H s) {k : Kd} {a : Addr} {xs ys : List V} (h : SqK k X.K H a xs) (h' : SqK k X.K H a ys) : xs = ys := by
 cases k with
 | l => exact I.list_inj h h'
 | t => exact I.tuple_inj h h'
theorem zpr {P : Program} {w : World} {K : PySem.W.Frag} {elts : List Expr} {x1 : Nat} {tpos : Pos} (k : Kd) (a e it : Addr) (ne : e ≠ it) : zsn P w K (.Tuple elts x1 tpos) (ItE k K a) [e, it] e (fun i h => (∃ old, IsEnum h e it i old) /\ ItAt k h it a i) where
 mem := by simp
 obj := fun i h st b hb => by
  obtain ⟨⟨old, q⟩, r⟩ := st;rcases Qs.mp hb with rfl | hb
  ·exact ⟨_, q, fun v z => by cases z⟩
  ·rw [Qx.mp hb]; exact r.obj
 keep := fun i h h' st kk => ⟨let ⟨old, q⟩ := st.1; ⟨old, kk e (by simp) _ q⟩, st.2.kept fun o x => kk it (by simp) o x⟩
 item := by
  intro X hP hw hK hc i pins s σ H E I hf st hg;subst hP hw hK;obtain ⟨⟨old, he⟩, hi⟩ := st;obtain ⟨xs, x, hq, hx⟩ := hg;obtain ⟨its, r, hs, hz⟩ := I.seq hq;obtain ⟨u, e1, ru⟩ := r.get hx;refine zqv he hi hs e1 ne fun h' a1 a2 a3 a4 => ⟨_, rfl, ?_⟩;refine wpAny_letOwnedTupleGo_enum (s := { s with heap := h', toks := s.toks + 1 }) a1 fun h2 b1 b2 => ?_
  replace b2 : Heap.SameBut e h' h2 := b2
  have el : e < s.heap.objs.size := Qt he;have kk : ∀ b o, b ∉ [e, it] -> s.heap.get? b = some o -> h2.get? b = some o := fun b o hb q => by
   simp at hb;exact b2.extBut b o hb.1 (a4 b o hb.1 hb.2 q)
  have tt : h2.get? s.heap.objs.size = some { cls := .type "tuple", data := .seq #[.int i s.toks, u] } := b2.extBut _ _ (Nat.ne_of_gt el) a3;have fr : H s.heap.objs.size = none := I.hok.fresh (Qw _);refine ⟨.ref s.heap.objs.size, upd H s.heap.objs.size (.tup [.int i, x]), I.turnNew hf kk (Qw _) ?_, rfl, ⟨_, x, fr, rfl, fun ys hy => ?_, rfl⟩, ⟨⟨u, ?_⟩, a2.kept fun o q => b2.extBut it o ne.symm q⟩, fun b hb => ?_⟩
  ·exact ⟨by show 2 <= sizeLine; decide, [.int i s.toks, u], .cons ⟨_, rfl⟩ (.cons ru .nil), ⟨_, tt, rfl, 0, rfl⟩⟩
  ·rw [I.seq_inj hy hq]; exact hx
  ·have : ((i + 1 : Nat) : Int) = (i : Int) + 1 := by push_cast; rfl
   rw [this]; exact b1
  ·rw [zU]
   ·exact (hf b hb).1
   ·rcases Qs.mp hb with rfl | hb
    ·exact Q7 el
    ·rw [Qx.mp hb];obtain ⟨o, q, _⟩ := hi.obj;exact Q7 (Qt q)
 done := by
  intro X hP hw hK hc i pins s σ H E I hf st hg;subst hP hw hK;obtain ⟨⟨old, he⟩, hi⟩ := st;obtain ⟨xs, hq, hx⟩ := hg;obtain ⟨its, r, hs, hz⟩ := I.seq hq;refine zqw (I.ok.hd hc) he hi hs (by rw [<- r.length]; exact hx) fun h' q => ⟨rfl, I.turnM (t' := s.toks) hf fun b o hb z => q b o (fun y => hb (by simp [y])) z⟩
 self := fun _ _ _ _ _ st h => let ⟨⟨_, he⟩, _⟩ := st; wpAny_pyIter_enum he h
def zAx (k : Kd) (K : PySem.W.Frag) (ta : TA) : TI := fun σ H R => ta σ H fun vs H1 => ∃ a xs, vs = [.ref a] /\ SqK k K H1 a xs /\ R (ItE k K a) H1
theorem zay : bootBuiltins "enumerate" = some (.type "enumerate") := by first | rfl | decide +kernel
theorem zyg {X : Cx} {elts : List Expr} {x1 : Nat} {tpos : Pos} {l : Expr} {ta : TA} {p pos : Pos} (k : Kd) (hg : Gl X "enumerate") (hm : X.mg "enumerate" = none) (ha : PA X [l] ta) (hs : starEach [l] X.env = [(false, eval l X.env)] := by rfl) :
  PI X (.Tuple elts x1 tpos) (.Call (.Name "enumerate" p) [l] [] pos) (zAx k X.K ta) := by
 intro pins s σ H R I h;refine Call_ (zbf I hg hm zay (PyProof.Rows.callWith_type1 (thn (ha pos pins s σ H _ I h) fun us s1 ⟨vs, H1, I1, r1, q1⟩ => ?_) hs rfl));obtain ⟨a, xs, rfl, hq, q⟩ := q1;obtain ⟨u, rfl, ru⟩ := Vals.one r1;cases (show u = Value.ref a from ru)
 obtain ⟨its, r, hsq, hz⟩ := I1.seq hq;refine zri hsq fun h' a1 a2 a3 => wpAny_pyIter_enum (s := { s1 with heap := h' }) a1 ?_;refine ⟨s1.heap.objs.size + 1, [s1.heap.objs.size + 1, s1.heap.objs.size], _, _, H1, rfl, I1.kept (t' := s1.toks) a3, zpr k a _ _ (Nat.succ_ne_self _), ⟨⟨_, a1⟩, a2⟩, fun b hb => ?_, q⟩;rcases Qs.mp hb with rfl | hb
 ·exact I1.fpOk (Ws _) (I1.hok.fresh (Ws _))
 ·rw [Qx.mp hb]; exact I1.fpOk (Qw _) (I1.hok.fresh (Qw _))
open AutoSeq1 (wpAny_loadPart')
section
variable {prog : Program} {w : World} {A : Around} {E : Value -> Shared -> Prop} {s : Shared}
end
structure Src (K : PySem.W.Frag) (mg : Str -> Option Value) (x : Str) (st : Stmt) (ps : List Str) : Prop where
 ex : ∃ f fd, Fun K x x st f fd /\ Binds K fd ps [] /\ mg x = some (.ref f)
structure Def (P : Program) (w : World) (K : PySem.W.Frag) (mg : Str -> Option Value) (base : Heap) (k : Nat) (x : Str) (ps : List Str) (sp : Sp) : Prop where
 ex : ∃ f fd, zhe P w K mg base CX0 k f fd ps sp /\ Binds K fd ps [] /\ mg x = some (.ref f) /\ PySem.W.keepIn K (.ref f) = true
theorem Src.def {P : Program} {w : World} {K : PySem.W.Frag} {mg : Str -> Option Value} {base : Heap} {k : Nat} {x : Str} {st : Stmt} {N ps : List Str} {sp : Sp} (S : Src K mg x st ps) (sc : zL N ps (zE st)) (len : ∀ vs H Q E, sp vs H Q E -> vs.length = ps.length)
  (hbody : ∀ (f : Addr) (cdv : Value) (A : Around) (outer : List Env) (s : Shared) (H : Hp) (vs : List V) (Q : VK) (E : XK), Room k (A.deeper (envOfC x (zE st) s.heap.objs.size f cdv)) -> sp vs H Q E ->
   ∃ t, PSs (zmn CX0 P w K mg base N x (zE st) f cdv A outer s H E).nox (yW st) t /\ t { nx := fun _ H' => Q .non H', rt := Q } (start N vs) H) : Def P w K mg base (k + 1) x ps sp := by
 obtain ⟨f, fd, F, b, m⟩ := S.ex;exact ⟨f, fd, F.ok sc len (hbody f), b, m, F.kp⟩
theorem zH {X : Cx} {k : Nat} {x : Str} {ps : List Str} {sp : Sp} {e : Expr} {es : List Expr} {t : TA} {p pos : Pos} (D : Def X.prog X.w X.K X.mg X.base k x ps sp) (hr : Room k X.A) (hg : Gl X x) (ha : PA X (e :: es) t)
  (hdb : (x == ("__debug__" : Str)) = false := by decide) (he : starEach (e :: es) X.env = (false, eval e X.env) :: starEach es X.env := by rfl) (hpl : (backTo pos (starEach es X.env)).any (·.1) = false := by rfl) :
  PE X (.Call (.Name x p) (e :: es) [] pos) (zwt sp [] E0 t) := by
 obtain ⟨f, fd, F, b, m, kp⟩ := D.ex;exact zok F hr hg m kp b .nil zFk ha hdb he hpl
theorem Same.tup {K : PySem.W.Frag} {H H' : Hp} {a : Addr} {xs : List V} (e : Same H H') (h : SqT K H a xs) : SqT K H' a xs := by
 rcases h with (h | ⟨o, h⟩) | h
 ·exact .inl (.inl (e _ _ h))
 ·exact .inl (.inr ⟨o, e _ _ h⟩)
 ·exact .inr h
theorem Same.seqK {K : PySem.W.Frag} {H H' : Hp} {k : Kd} {a : Addr} {xs : List V} (e : Same H H') (h : SqK k K H a xs) : SqK k K H' a xs := by
 cases k with
 | l => exact e.seq h
 | t => exact e.tup h
theorem Same.new {H : Hp} {p : Addr} {o : HO} (h : H p = none) : Same H (upd H p o) := fun b u e => by rw [zU (zP e h)]; exact e
theorem Paired.at {α β : Type} {F : α -> β -> Prop} : ∀ {l₁ : List α} {l₂ : List β}, Paired F l₁ l₂ -> ∀ {i : Nat} {a : α}, l₁[i]? = some a -> ∃ b, l₂[i]? = some b /\ F a b
 | _, _, .nil, i, a, e => by simp at e
 | _, _, .cons r t, 0, a, e => by simp at e; subst e; exact ⟨_, rfl, r⟩
 | _, _, .cons r t, i + 1, a, e => by
  obtain ⟨b, h1, h2⟩ := Paired.at t (i := i) (by simpa using e);exact ⟨b, by simpa using h1, h2⟩
theorem Paired.snoc {α β : Type} {F : α -> β -> Prop} : ∀ {l₁ : List α} {l₂ : List β}, Paired F l₁ l₂ -> ∀ {a : α} {b : β}, F a b -> Paired F (l₁ ++ [a]) (l₂ ++ [b])
 | _, _, .nil, _, _, h => .cons h .nil
 | _, _, .cons r t, _, _, h => .cons r (Paired.snoc t h)
theorem zM {α : Type} {l : List α} {i : Nat} {a : α} (h : l[i]? = some a) : l.take (i + 1) = l.take i ++ [a] := by
 rw [List.take_add_one, h]; rfl
def ItK (k : Kd) (K : PySem.W.Frag) (a : Addr) : It := match k with | .l => Itl K a | .t => Itt K a
def zGt (k : Kd) (K : PySem.W.Frag) (tl : TE) : TI := fun σ H R => tl σ H fun x H1 => ∃ a, x = .ref a /\ (∃ xs, SqK k K H1 a xs) /\ R (ItK k K a) H1
theorem zCq {X : Cx} {tg : Expr} (k : Kd) {l : Expr} {tl : TE} (hl : PE X l tl) : PI X tg l (zGt k X.K tl) := by
 cases k with
 | l => exact zog hl
 | t => exact zCp hl
theorem zwi {k : Kd} {K : PySem.W.Frag} {H : Hp} {a : Addr} {xs : List V} {i : Nat} (h : SqK k K H a xs) (hi : i < xs.length) : (ItK k K a).go i H := by
 cases k with
 | l => exact ⟨xs, xs[i], h, by simp [hi]⟩
 | t => exact ⟨xs, xs[i], h, by simp [hi]⟩
theorem zkt {k : Kd} {K : PySem.W.Frag} {H : Hp} {a : Addr} {xs : List V} {i : Nat} (h : SqK k K H a xs) (hi : xs.length <= i) : (ItK k K a).stop i H := by
 cases k with
 | l => exact ⟨xs, h, hi⟩
 | t => exact ⟨xs, h, hi⟩
theorem zov {k : Kd} {K : PySem.W.Frag} {H H' : Hp} {a : Addr} {xs : List V} {i : Nat} {x : V} (h : SqK k K H a xs) (y : (ItK k K a).yld i H x H') : H' = H /\ xs[i]? = some x := by
 cases k with
 | l => exact ⟨y.1, y.2 xs h⟩
 | t => exact ⟨y.1, y.2 xs h⟩
theorem yX {k : Kd} {K : PySem.W.Frag} {a : Addr} {xs : List V} {g : TG} {tt : TT} {te : TE} {fin : List V -> Hp -> Prop} {σ : St} {H : Hp} (S : St -> Prop) (Pv : Nat -> List V -> Hp -> Prop) (hσ : S σ) (h0 : Pv 0 [] H) (hz : xs.length < sizeLine)
  (hl : ∀ i ys H, i <= xs.length -> Pv i ys H -> SqK k K H a xs)
  (hs : ∀ (i : Nat) (x : V) (ys : List V) (σ : St) (H : Hp) (N : List V -> St -> Hp -> Prop), xs[i]? = some x -> S σ -> Pv i ys H -> (∀ ys' σ' H', S σ' -> Pv (i + 1) ys' H' -> ys'.length <= ys.length + 1 -> N ys' σ' H') ->
   g x σ H fun σ2 H2 => tt σ2 H2 fun b H3 => if b = true then te σ2 H3 fun y H4 => N (ys ++ [y]) σ2 H4 else N ys σ2 H3)
  (hd : ∀ ys H, Pv xs.length ys H -> fin ys H) : ∃ W, zej (ItK k K a) g tt te fin W /\ ∃ m, W 0 m [] σ H := by
 refine ⟨fun i m ys σ H => m = xs.length - i /\ i <= xs.length /\ ys.length <= i /\ S σ /\ Pv i ys H, ?_, xs.length, by simp, Jj _, Qw _, hσ, h0⟩;rintro i m ys σ H ⟨rfl, hi, hy, hS, p⟩;have q := hl i ys H hi p;by_cases hlt : i < xs.length
 ·refine .inr ⟨zwi q hlt, by lia, fun x H' y => ?_⟩;obtain ⟨e, hy2⟩ := zov q y;subst e;have := hs i x ys σ H' (fun ys' σ' H'' => ∃ m', m' < xs.length - i /\ m' = xs.length - (i + 1) /\ i + 1 <= xs.length /\ ys'.length <= i + 1 /\ S σ' /\ Pv (i + 1) ys' H'') hy2 hS p (fun ys' σ' H'' a b c => ⟨_, by lia, rfl, hlt, by lia, a, b⟩);exact this
 ·have e : i = xs.length := by lia
  subst e;exact .inl ⟨zkt q (Qw _), by lia, hd ys H p⟩
theorem zlc {k : Kd} {K : PySem.W.Frag} {a : Addr} {xs : List V} {g : TG} {tb : TS} {D : zfv} {σ : St} {H : Hp} (Pv : Nat -> St -> Hp -> Prop) (h0 : Pv 0 σ H) (hl : ∀ i σ H, i <= xs.length -> Pv i σ H -> SqK k K H a xs)
  (hs : ∀ (i : Nat) x p σ H, xs[i]? = some x -> Pv i σ H -> H p = none -> g (.ref p) σ (upd H p (.tup [.int i, x])) fun σ2 H2 => tb { D with nx := Pv (i + 1), ct := Pv (i + 1), bk := D.nx } σ2 H2) (hd : ∀ σ H, Pv xs.length σ H -> D.nx σ H) :
  ∃ W : Nat -> Nat -> St -> Hp -> Prop, (∃ m, W 0 m σ H) /\ ∀ i m σ H, W i m σ H ->
   ((ItE k K a).stop i H /\ D.nx σ H) \/ ((ItE k K a).go i H /\ ∃ N : St -> Hp -> Prop, (∀ σ' H', N σ' H' -> ∃ m', m' < m /\ W (i + 1) m' σ' H') /\ ∀ x H', (ItE k K a).yld i H x H' -> g x σ H' fun σ2 H2 => tb { D with nx := N, ct := N, bk := D.nx } σ2 H2) := by
 refine ⟨fun i m σ H => m = xs.length - i /\ i <= xs.length /\ Pv i σ H, ⟨xs.length, by simp, Jj _, h0⟩, ?_⟩;rintro i m σ H ⟨rfl, hi, p⟩;have q := hl i σ H hi p;by_cases hlt : i < xs.length
 ·refine .inr ⟨⟨xs, xs[i], q, by simp [hlt]⟩, Pv (i + 1), fun σ' H' p' => ⟨xs.length - (i + 1), by lia, rfl, hlt, p'⟩, fun x H' y => ?_⟩;obtain ⟨r, y, hn, rfl, hy, rfl⟩ := y;exact hs i y r σ H (hy xs q) p hn
 ·have e : i = xs.length := by lia
  subst e;exact .inl ⟨⟨xs, q, Qw _⟩, hd σ H p⟩
theorem wN {A : Around} {k : Nat} (hr : Room k A) : A.units + 66 < cLine := by have := hr.un; lia
def zBe (kinds : List (Str × NameKind)) (N : List Str) (scope : Scope) (N' : List Str) (fr : List (Option Nat)) : Bool :=
 (scope.kind == .function) && (scope.names.all fun y => y.2 != .cell) && (scope.names.all fun y => y.2 != .local || scope.names.lookup y.1 == some .local) &&
 (scope.names.all fun y => y.2 != .free || (kinds.lookup y.1 == some .cell || kinds.lookup y.1 == some .free)) && zza N kinds scope.names N' fr
theorem zS {X : Cx} {scope : Scope} {N' : List Str} {fr : List (Option Nat)} (h : zBe X.env.scope.names X.N scope N' fr = true) : CompOk X scope N' fr := by
 unfold zBe at h;simp only [Q5, Jb] at h;obtain ⟨⟨⟨⟨h1, h2⟩, h3⟩, h4⟩, h5⟩ := h;refine ⟨by simpa using h1, fun y hy => by simpa using h2 y hy, fun y hy e => ?_, fun y hy e => ?_, h5⟩
 ·have := h3 y hy;rw [e] at this
  simpa using this
 ·have := h4 y hy;rw [e] at this
  simpa [Env.kindOf] using this
theorem zbk {σ : St} {H : Hp} {A B : Hp -> Prop} (h : A H) : zEi σ H fun b H3 => if b = true then A H3 else B H3 := by
 show if true = true then A H else B H;exact jP h
section
open PySem.SeqAt
open PySem.AutoSeq1 (wpAny_loadPart')
open PySem.MeetsSeq PySem.MeetsSeq2 PySem.MeetsSeq3
end
section
variable {X : Cx}
def zww (K : PySem.W.Frag) : R2 := fun x y H Q => ∃ a b ys, x = .ref a /\ y = .ref b /\ SqT K H a [] /\ SqT K H b ys /\ Q (.ref b) H
theorem zoo : OpR X (binaryOp .Add) (zww X.K) := by
 intro pins s σ H x y v u Q I rx ry h;obtain ⟨a, b, ys, rfl, rfl, ha, hb, k⟩ := h;cases (show v = Value.ref a from rx)
 cases (show u = Value.ref b from ry)
 obtain ⟨its, r1, t1, _⟩ := I.tuple ha;obtain ⟨its2, r2, t2, _⟩ := I.tuple hb;rw [Vals.zero r1] at t1;obtain ⟨⟨cls, dd, data, sl⟩, ho, hc, n, hd⟩ := id t1;obtain ⟨⟨cls2, dd2, data2, sl2⟩, ho2, hc2, n2, hd2⟩ := id t2;simp only at hc hd hc2 hd2;subst hc hd hc2 hd2;exact concat_meets ⟨_, ho, rfl⟩ ⟨_, ho2, rfl⟩ noFill_tuple_add seq_tuple_add PySem.F.slot_tuple_add PySem.F.entry_tuple_add (PySem.F.args_tuple_add_2 _ _) (tuple_addW0 a b _ its2.toArray n n2 dd dd2 sl sl2 (by simp)) ⟨ho, ho2, ⟨.ref b, H, I, rfl, k⟩⟩
end
theorem x8 {lo : Int} {n : Nat} {g : TG} {tt : TT} {te : TE} {fin : List V -> Hp -> Prop} {σ : St} {H : Hp} (S : St -> Prop) (Pv : Nat -> List V -> Hp -> Prop) (hσ : S σ) (h0 : Pv 0 [] H) (hz : n < sizeLine)
  (hs : ∀ (i : Nat) (ys : List V) (σ : St) (H : Hp) (N : List V -> St -> Hp -> Prop), i < n -> S σ -> Pv i ys H -> (∀ ys' σ' H', S σ' -> Pv (i + 1) ys' H' -> ys'.length <= ys.length + 1 -> N ys' σ' H') ->
   g (.int (lo + i)) σ H fun σ2 H2 => tt σ2 H2 fun b H3 => if b = true then te σ2 H3 fun y H4 => N (ys ++ [y]) σ2 H4 else N ys σ2 H3)
  (hd : ∀ ys H, Pv n ys H -> fin ys H) : ∃ W, zej (Itr lo n) g tt te fin W /\ ∃ m, W 0 m [] σ H := by
 refine ⟨fun i m ys σ H => m = n - i /\ i <= n /\ ys.length <= i /\ S σ /\ Pv i ys H, ?_, n, by simp, Jj _, Qw _, hσ, h0⟩;rintro i m ys σ H ⟨rfl, hi, hy, hS, p⟩;by_cases hlt : i < n
 ·refine .inr ⟨hlt, by omega, fun x H' y => ?_⟩;obtain ⟨e, y⟩ := y;subst e y;exact hs i ys σ _ (fun ys' σ' H'' => ∃ m', m' < n - i /\ m' = n - (i + 1) /\ i + 1 <= n /\ ys'.length <= i + 1 /\ S σ' /\ Pv (i + 1) ys' H'') hlt hS p (fun ys' σ' H'' a b c => ⟨_, by omega, rfl, hlt, by omega, a, b⟩)
 ·have e : i = n := by omega
  subst e;exact .inl ⟨Qw _, by omega, hd ys H p⟩
section
variable {X : Cx}
end
def CXr (P : Program) (w : World) : CXT := fun outer H s E e s' => ∃ (ea C : Addr) (a0 : Value) (B : Heap) (H' : Hp), e = .ref ea /\ s'.os = s.os /\ AllBare s'.gens /\ Un (frs outer) [] H H' s.heap s'.heap /\ HOk P w H' s'.heap /\
 Heap.FlyingW B outer ea (.ref C) a0 s'.heap /\ (∀ b o, s'.heap.get? b = some o -> ((∃ q, s.heap.get? b = some q) \/ ∃ q, H' b = some q) -> b ∉ frs outer -> B.get? b = some o) /\ E (.ref C) none H'
section
variable {P : Program} {w : World} {K : PySem.W.Frag} {mg : Str -> Option Value} {base : Heap} {N : List Str} {qual : Str} {scope : Scope} {f : Addr} {cd : Value} {A : Around} {outer : List Env} {s0 : Shared} {H0 : Hp} {E : XK}
end
section
variable {P : Program} {w : World} {K : PySem.W.Frag} {mg : Str -> Option Value} {base : Heap} {N : List Str} {qual : Str} {scope : Scope} {f : Addr} {cd : Value} {A : Around} {outer : List Env} {s0 : Shared} {H0 : Hp} {E : XK}
end
end L2
namespace L2
open PySem PySem.Spec PyProof.Rows PySem.W
section
variable {K : Frag} {prog : Program} {w : World} {A : Around} {E : Value -> Shared -> Prop} {h : Heap} {g : Array GenState} {d : Drawn} {t : Nat} {os : OsState} {a C : Addr} {o : Obj}
end
section
variable {X : Cx}
end
end L2
namespace L2
open PySem PySem.Spec PyProof.Rows PySem.W
section
variable {X : Cx} {pins : List (Addr × Obj)} {σ : St} {H H' : Hp} {s s' : Shared}
end
section
variable {X : Cx} {pins : List (Addr × Obj)} {σ : St} {H H' : Hp} {s s' : Shared} {v : Value}
end
theorem zFj {P : Program} {w : World} {X : Cx} : zis (CXr P w) X E0 := fun _ _ _ _ _ _ _ ⟨_, _, _, _, _, _, _, _, _, _, _, _, z⟩ => z.elim
end L2
namespace L2
open PySem PySem.Spec PyProof.Rows
open PySem.AutoSeq1 (wpAny_loadPart')
section
variable {prog : Program} {w : World} {A : Around} {E : Value -> Shared -> Prop} {s : Shared}
theorem jU {R : Result -> Shared -> Prop} {r : Addr} {a b c : Int} {t u v : Tok} {n : Nat} (hh : A.handled = none) (hr : IsRange s.heap r a b c t u v) (hsm : Builtin.Range.small a b c = true) (hn : Builtin.Range.rangeSize a b c = n) (hl : n <= 2 ^ 24)
  (hR : ∀ h' tk acc c', (∀ b o, s.heap.get? b = some o -> h'.get? b = some o) -> h'.get? s.heap.objs.size = some { cls := .type "list", dict := none, data := .seq acc c', slots := #[] } -> ItemsOf (fun i v => ∃ t, v = .int (a + i * c) t) acc n ->
   R (.ok (.ret (.ref s.heap.objs.size))) { s with heap := h', toks := tk }) : codeAny (model prog w) A (.builtin "proto.collect" ⟨[.ref r], []⟩) R s := by
 refine codeAny_builtin PySem.F.entry_proto_collect ?_;rw [Around.under_plainId PySem.F.plain_proto_collect _];show wpAny _ A.in1 (newList [] >>= fun l => again (.builtin "list.__iadd__" ⟨[l, .ref r], []⟩)) _ _ s;refine Qq (Jg ?_);refine Qv ⟨plainId_quiet PySem.F.plain_list_iadd _, codeAny_builtin PySem.F.entry_list_iadd ?_⟩;rw [Around.under_plainId PySem.F.plain_list_iadd _];show wpAny _ A.in1 (Builtin.List.listExtendWith (.ref s.heap.objs.size) (.ref r) (.ref s.heap.objs.size)) _ _ _;exact wpAny_extend_range (R := R) (s := { s with heap := s.heap.push { cls := .type "list", data := .seq ([] : List Value).toArray } }) hh (Qz _ hr) hsm hn hl s.heap.objs.size (.ref s.heap.objs.size) 0 (Qb _ rfl) fun h' tk acc c' hk hS hacc =>
  hR h' tk acc c' (fun b o e => hk b o (Q7 (Qt e)) (Qz _ e)) hS hacc
theorem zdv {Q : List Value -> Shared -> Prop} {r : Addr} {a b c : Int} {t u v : Tok} {n : Nat} (hh : A.handled = none) (hr : IsRange s.heap r a b c t u v) (hsm : Builtin.Range.small a b c = true) (hn : Builtin.Range.rangeSize a b c = n) (hl : n <= 2 ^ 24)
  (hQ : ∀ h' tk acc, (∀ b o, s.heap.get? b = some o -> h'.get? b = some o) -> s.heap.objs.size < h'.objs.size -> ItemsOf (fun i v => ∃ t, v = .int (a + i * c) t) acc n -> Q acc.toList { s with heap := h', toks := tk }) : wpAny (model prog w) A (collect (.ref r)) Q E s := by
 unfold collect;refine Qq (wpAny_runValue (jU hh hr hsm hn hl fun h' tk acc c' hk hS hacc => ?_));show wpAny _ A (load s.heap.objs.size >>= _) _ _ _;refine Qq (wpAny_load hS ?_);exact Qv (hQ h' tk acc hk (Qt hS) hacc)
end
theorem zav (r : Addr) (a b c : Int) (t u v : Tok) (n : Nat) (hsm : Builtin.Range.small a b c = true) (hn : Builtin.Range.rangeSize a b c = n) (hl : n <= 2 ^ 24) :
  Meets (Builtin.«tuple.__new__» ⟨[.type "tuple", .ref r], []⟩)
   (fun A R s => (A.handled = none /\ IsRange s.heap r a b c t u v) /\ ∀ (h' : Heap) (tk : Nat) (acc : Array Value), (∀ b o, s.heap.get? b = some o -> h'.get? b = some o) -> s.heap.objs.size < h'.objs.size -> ItemsOf (fun i v => ∃ t, v = .int (a + i * c) t) acc n ->
    R (.ok (.ret (.ref h'.objs.size))) { s with heap := h'.push { cls := .type "tuple", data := .seq acc }, toks := tk }) :=
 .of_wp fun prog w A R s h => by
  obtain ⟨⟨hh, hr⟩, h⟩ := h;have hsub := sub_tuple_self;have hinit := init_tuple_lookup;have hmh := madeHere_tuple;have hT : s.TypeIs (.ref r) "range" := ⟨_, hr, rfl⟩;have hh1 : A.in1.handled = none := hh
  wp_walk using wpAny_typeOf hT, zdv hh1 hr hsm hn hl
  intro h' tk acc hk hz hacc;show wpAny _ _ (Builtin.Tuple.tupleExact acc.toList.toArray >>= fun v => ret v) _ _ _;unfold Builtin.Tuple.tupleExact;refine Qq (Jg ?_ (show acc.toList.toArray.size <= sizeLine by simp only [Array.toArray_toList]; rw [hacc.1, sizeLine_eq]; omega));refine Qv ⟨_, rfl, ?_⟩;have e : acc.toList.toArray = acc := by simp
  rw [e];exact h h' tk acc hk hz hacc
def upN (n : Nat) : List V := (List.range n).map fun (i : Nat) => V.int i
theorem zku {acc : Array Value} {n : Nat} (h : ItemsOf (fun i v => ∃ t, v = .int (0 + (i : Int) * 1) t) acc n) : Vals (upN n) acc.toList := by
 obtain ⟨hz, hi⟩ := h;have key : ∀ (l : List Value) (k : Nat), (∀ (j : Nat) (v : Value), l[j]? = some v -> ∃ t, v = Value.int ((k + j : Nat) : Int) t) -> Vals ((List.range' k l.length).map fun (i : Nat) => V.int i) l := by
  intro l
  induction l with
  | nil => intro k _; exact .nil
  | cons a r ih =>
   intro k hk;obtain ⟨t, e⟩ := hk 0 a rfl;refine .cons ⟨t, by simpa using e⟩ (ih (k + 1) fun j v e => ?_);obtain ⟨t', e'⟩ := hk (j + 1) v (by simpa using e);exact ⟨t', by rw [e']; congr 2; omega⟩
 have := key acc.toList 0 fun j v e => by
  obtain ⟨t, e'⟩ := hi j v (by simpa using e);exact ⟨t, by rw [e']; congr 1; simp⟩
 have el : acc.toList.length = n := by simpa using hz
 rw [el] at this;unfold upN;rw [List.range_eq_range'];exact this
section
variable {X : Cx}
theorem qR : xE X (.type "range") (fun xs H Q => ∃ j : Int, xs = [.int j] /\ ∀ p, H p = none -> Q (.ref p) (upd H p (.rng 0 j))) := by
 intro pins s σ H xs us Q I r h;obtain ⟨j, rfl, q⟩ := h;obtain ⟨u, rfl, ru⟩ := Vals.one r;obtain ⟨t, rfl⟩ := ru;refine call_range_1 ⟨.ref s.heap.objs.size, upd H s.heap.objs.size (.rng 0 j), I.laid (fun b o e => Qz _ e) (Qw _) ?_, rfl, q _ (I.hok.fresh (Qw _))⟩;exact ⟨_, _, _, Qb _ rfl⟩
theorem zAl (n : Nat) : Builtin.Range.rangeSize 0 (n : Int) 1 = (n : Int) := by rw [rangeSize_one]; split <;> omega
theorem jS (hc : X.calm = true) : xE X (.type "list") (fun xs H Q => ∃ (p : Addr) (n : Nat), xs = [.ref p] /\ H p = some (.rng 0 n) /\ n <= 1000 /\ ∀ l, H l = none -> Q (.ref l) (upd H l (.lst (upN n)))) := by
 intro pins s σ H xs us Q I r h;obtain ⟨p, n, rfl, hp, hn, q⟩ := h;obtain ⟨u, rfl, ru⟩ := Vals.one r;cases (show u = Value.ref p from ru)
 obtain ⟨t1, t2, t3, e⟩ := I.hok p _ hp;refine call_list_range (t := t1) (u := t2) (v := t3) (I.ok.hd hc) e (small_one (by decide) (by decide) (by omega) (by omega)) (zAl n) (by omega) fun h' tk acc c' hk hS hacc => ?_;refine ⟨.ref s.heap.objs.size, upd H s.heap.objs.size (.lst (upN n)), I.laid hk (Qw _) ?_, rfl, q _ (I.hok.fresh (Qw _))⟩;exact ⟨by unfold upN; rw [Qj, Jk]; exact Jx hn (by decide), acc.toList, c', zku hacc, by rw [hS]⟩
def dcr : List Int -> Nat
 | [] => 0
 | x :: xs => dcr xs + if x ∈ xs then 0 else 1
def xI (l : List Int) : Nat := dcr l.reverse
theorem qQ (ns : List Int) : ∀ i, i <= ns.length -> (firstMet (fun i => ns.getD i 0) i).length = xI (ns.take i)
 | 0, _ => rfl
 | i + 1, h => by
  have hi : i < ns.length := by omega
  have ih := qQ ns i (by omega);have e1 : ns.take (i + 1) = ns.take i ++ [ns.getD i 0] := by
   rw [List.take_add_one];congr 1;simp [List.getD, hi]
  have e2 : ((List.range i).map fun i => ns.getD i 0) = ns.take i := by
   apply List.ext_getElem?;intro j;by_cases hj : j < i
   ·rw [List.getElem?_take_of_lt hj, Jz, List.getElem?_range hj];have : j < ns.length := by omega
    simp [List.getD, this]
   ·rw [List.getElem?_take_eq_none (by omega)];rw [List.getElem?_eq_none (by simp; omega)]
  have ea := firstMet_any (fun i => ns.getD i 0) i (ns.getD i 0);rw [e2] at ea;rw [firstMet_succ, step_length, ea, ih, e1];unfold xI;rw [List.reverse_append];show _ = dcr (ns.getD i 0 :: (ns.take i).reverse);show _ = dcr (ns.take i).reverse + if ns.getD i 0 ∈ (ns.take i).reverse then 0 else 1;by_cases hm : ns.getD i 0 ∈ ns.take i
  ·have h1 : (ns.take i).any (· == ns.getD i 0) = true := Ju.mpr ⟨_, hm, by simp⟩;rw [h1, if_pos (Jl.mpr hm)];simp
  ·have h1 : (ns.take i).any (· == ns.getD i 0) = false := by
    rw [List.any_eq_false];intro x hx e;have : x = ns.getD i 0 := by simpa using e
    exact hm (this ▸ hx)
   rw [h1, if_neg (fun z => hm (Jl.mp z))];simp
theorem zff {ns : List Int} : ∀ {us : List Value}, Vals (ns.map V.int) us -> IntsAre us ns := by
 induction ns with
 | nil => intro us r; rw [Vals.zero r]; exact .nil
 | cons y ys ih =>
  intro us r;cases r with
  | cons h t =>
   obtain ⟨tk, rfl⟩ := h;exact .cons y tk (ih t)
theorem zdz (hc : X.calm = true) : xE X (.type "set") (fun xs H Q => ∃ (p : Addr) (ns : List Int), xs = [.ref p] /\ SqL X.K H p (ns.map V.int) /\ ns.length <= 1000 /\ ∀ l S, H l = none -> Q (.ref l) (upd H l (.set S (xI ns)))) := by
 intro pins s σ H xs us Q I r h;obtain ⟨p, ns, rfl, hp, hn, q⟩ := h;obtain ⟨u, rfl, ru⟩ := Vals.one r;cases (show u = Value.ref p from ru)
 obtain ⟨its, r1, t1, _⟩ := I.list hp;have hl : its.length = ns.length := by have := r1.length; rw [Qj] at this; omega
 refine PySem.call_set_list (I.ok.hd hc) t1.isList (by simpa using zff r1) (by show its.toArray.size + 1 < 4096; rw [Qh]; omega) fun h' tk hS hk => ?_;have hs : its.toArray.size = ns.length := by rw [Qh, hl]
 rw [hs, qQ ns ns.length (Qw _), Q6] at hS;exact ⟨.ref s.heap.objs.size, upd H s.heap.objs.size (.set _ (xI ns)), I.laid (fun b o e => hk b o (Qt e) e) (Qw _) hS, rfl, q _ _ (I.hok.fresh (Qw _))⟩
theorem zea : xE X (.builtin "len") (fun xs H Q => ∃ (p : Addr) (S : Int -> Bool) (n : Nat), xs = [.ref p] /\ H p = some (.set S n) /\ Q (.int n) H) := by
 intro pins s σ H xs us Q I r h;obtain ⟨p, S, n, rfl, hp, q⟩ := h;obtain ⟨u, rfl, ru⟩ := Vals.one r;cases (show u = Value.ref p from ru)
 obtain ⟨o, es, ep, t, e1, e2, e3, _, _, e4, e5, e6⟩ := I.hok p _ hp;subst e6;refine call_len_set e1 e2 e3 e5 ?_ ⟨.int es.size, H, I.tok _, ⟨_, rfl⟩, q⟩;have : es.size < 4096 := e4;omega
end
theorem v7 {us : List Value} {ns : List Int} (h : IntsAre us ns) : Vals (ns.map V.int) us := by
 induction h with
 | nil => exact .nil
 | cons n t _ ih => exact .cons ⟨t, rfl⟩ ih
section
variable {X : Cx}
def ztk (K : PySem.W.Frag) : List V -> Hp -> VK -> Prop := fun xs H Q => ∃ (p : Addr) (ns : List Int), xs = [.ref p] /\ SqL K H p (ns.map V.int) /\ ns.length < 64 /\ ∀ (l : Addr) (ms : List Int), ms.Perm ns -> ms.Pairwise (· <= ·) -> H l = none -> Q (.ref l) (upd H l (.lst (ms.map V.int)))
theorem zgd : xE X (.builtin "sorted") (ztk X.K) := by
 intro pins s σ H xs us Q I r h;obtain ⟨p, ns, rfl, hp, hn, q⟩ := h;obtain ⟨u, rfl, ru⟩ := Vals.one r;cases (show u = Value.ref p from ru)
 obtain ⟨its, r1, t1, _⟩ := I.list hp;have hl : its.length = ns.length := by have := r1.length; rw [Qj] at this; lia
 refine sorted_ints t1.isList (qB r1) (by lia) fun out ms a1 a2 a3 => ?_;obtain ⟨e, he⟩ := sortedAll_at s.heap its out;have fr : s.heap.objs.size <= s.heap.objs.size + 1 := Ws _;refine ⟨.ref (s.heap.objs.size + 1), upd H (s.heap.objs.size + 1) (.lst (ms.map V.int)), I.laid (t' := s.toks) (fun b o z => sortedAll_old z) fr ?_, rfl, q _ ms a2 a3 (I.hok.fresh fr)⟩;refine ⟨?_, out.toList, e, v7 a1, by rw [he]⟩;rw [Qj, a2.length_eq];exact Jx (J9 hn) (by decide)
end
end L2
namespace L2
open PySem PySem.Spec PyProof.Rows PySem.W
def XP (X : Cx) (pins : List (Addr × Obj)) (DX : St -> XK) (e : Value) (s' : Shared) : Prop := ∃ σ H s, Inv X pins σ H s /\ CXr X.prog X.w X.stack H s (DX σ) e s'
section
variable {X : Cx}
end
end L2
namespace L2
open PySem PySem.Spec PyProof.Rows
section
variable {X : Cx}
end
section
variable {κ : Type} [DecidableEq κ]
def w9 (kvs : List (κ × V)) (k : κ) : Option V := (kvs.find? fun kv => decide (kv.1 = k)).map (·.2)
def qO (kvs : List (κ × V)) (k : κ) (v : V) : List (κ × V) :=
 if (kvs.any fun kv => decide (kv.1 = k)) = true then kvs.map (fun kv => if kv.1 = k then (kv.1, v) else kv) else kvs ++ [(k, v)]
theorem xU {p : κ × V} {r : List (κ × V)} {k : κ} (e : p.1 = k) : w9 (p :: r) k = some p.2 := by simp [w9, List.find?_cons, e]
theorem xV {p : κ × V} {r : List (κ × V)} {k : κ} (e : ¬ p.1 = k) : w9 (p :: r) k = w9 r k := by simp [w9, List.find?_cons, e]
theorem kK (k : κ) : ∀ kvs : List (κ × V), (kvs.any fun kv => decide (kv.1 = k)) = (w9 kvs k).isSome
 | [] => rfl
 | p :: r => by
  rw [List.any_cons];by_cases e : p.1 = k
  ·simp only [xU e, Q2 e, Bool.true_or, Option.isSome_some]
  ·rw [xV e, Q8 e, Bool.false_or]; exact kK k r
theorem zjd (k j : κ) (y : V) : ∀ kvs : List (κ × V), w9 (kvs.map fun kv => if kv.1 = k then (kv.1, y) else kv) j = (w9 kvs j).map fun x => if j = k then y else x
 | [] => rfl
 | p :: r => by
  have ih := zjd k j y r;rw [Qm];by_cases h : p.1 = k
  ·rw [if_pos h];by_cases e : p.1 = j
   ·rw [xU (p := (p.1, y)) e, xU e, Option.map_some, if_pos (e.symm.trans h)]
   ·rw [xV (p := (p.1, y)) e, xV e, ih]
  ·rw [if_neg h];by_cases e : p.1 = j
   ·rw [xU (p := p) e, xU e, Option.map_some, if_neg (fun z => h (e.trans z))]
   ·rw [xV (p := p) e, xV e, ih]
theorem zen (k j : κ) (y : V) : ∀ kvs : List (κ × V), w9 kvs k = none -> w9 (kvs ++ [(k, y)]) j = if j = k then some y else w9 kvs j
 | [], _ => by
  by_cases e : k = j
  ·rw [if_pos e.symm]; exact xU (p := (k, y)) e
  ·rw [if_neg (fun z => e z.symm)]; exact xV (p := (k, y)) e
 | p :: r, hn => by
  rw [List.cons_append];have hk : ¬ p.1 = k := fun z => by rw [xU z] at hn; cases hn
  rw [xV hk] at hn;have ih := zen k j y r hn;by_cases e : p.1 = j
  ·rw [xU e, xU e, if_neg (fun z => hk (e.trans z))]
  ·rw [xV e, xV e, ih]
theorem zsq (kvs : List (κ × V)) (k j : κ) (y : V) : w9 (qO kvs k y) j = if j = k then some y else w9 kvs j := by
 unfold qO;by_cases a : (kvs.any fun kv => decide (kv.1 = k)) = true
 ·rw [if_pos a, zjd];rw [kK] at a;by_cases e : j = k
  ·obtain ⟨x, hx⟩ := Option.isSome_iff_exists.mp a;rw [if_pos e, e, hx, Option.map_some, if_pos rfl]
  ·rw [if_neg e];cases w9 kvs j with
   | none => rfl
   | some x => rw [Option.map_some, if_neg e]
 ·rw [if_neg a];refine zen k j y kvs ?_;rw [kK] at a;cases q : w9 kvs k with
  | none => rfl
  | some x => rw [q] at a; exact (a rfl).elim
theorem vB (kvs : List (κ × V)) (k : κ) (v : V) : (qO kvs k v).length <= kvs.length + 1 := by
 unfold qO;split
 ·rw [Qj]; lia
 ·rw [Q3, Jh, List.length_nil]; lia
theorem RelO.isSome_eq {o : Option V} {u : Option Value} (r : RelO o u) : o.isSome = u.isSome := by
 cases o with
 | none => cases u with
  | none => rfl
  | some _ => exact (show False from r).elim
 | some _ => cases u with
  | none => exact (show False from r).elim
  | some _ => rfl
theorem RelO.getD {o : Option V} {u : Option Value} {d : V} {d' : Value} (r : RelO o u) (rd : RelV d d') : RelV (o.getD d) (u.getD d') := by
 cases o with
 | none => cases u with
  | none => exact rd
  | some _ => exact (show False from r).elim
 | some _ => cases u with
  | none => exact (show False from r).elim
  | some _ => exact r
theorem KV.val {kvs : List (κ × V)} {vs : List (κ × Value)} (r : KV kvs vs) (k : κ) : RelO (w9 kvs k) (valueAt vs k) := by
 unfold KV at r
 induction r with
 | nil => exact True.intro
 | @cons p q ps qs h t ih =>
  obtain ⟨h1, h2⟩ := h;by_cases e : p.1 = k
  ·have e' : q.1 = k := h1.symm.trans e;have b : valueAt (q :: qs) k = some q.2 := by simp [valueAt, List.find?_cons, e']
   rw [xU e, b]; exact h2
  ·have e' : ¬ q.1 = k := fun z => e (h1.trans z);have b : valueAt (q :: qs) k = valueAt qs k := by simp [valueAt, List.find?_cons, e']
   rw [xV e, b]; exact ih
theorem KV.any {kvs : List (κ × V)} {vs : List (κ × Value)} (r : KV kvs vs) (k : κ) : (kvs.any fun kv => decide (kv.1 = k)) = vs.any fun kv => decide (kv.1 = k) := by
 unfold KV at r
 induction r with
 | nil => rfl
 | cons h t ih => rw [List.any_cons, List.any_cons, ih, h.1]
theorem KV.repl {kvs : List (κ × V)} {vs : List (κ × Value)} (r : KV kvs vs) (k : κ) {y : V} {u : Value} (ry : RelV y u) :
  KV (kvs.map fun kv => if kv.1 = k then (kv.1, y) else kv) (vs.map fun kv => if kv.1 = k then (kv.1, u) else kv) := by
 unfold KV at r ⊢
 induction r with
 | nil => exact .nil
 | @cons p q ps qs h t ih =>
  rw [Qm, Qm];refine .cons ?_ ih;obtain ⟨h1, h2⟩ := h;by_cases e : p.1 = k
  ·rw [if_pos e, if_pos (h1.symm.trans e)]; exact ⟨h1, ry⟩
  ·rw [if_neg e, if_neg (fun z => e (h1.trans z))]; exact ⟨h1, h2⟩
theorem KV.put {kvs : List (κ × V)} {vs : List (κ × Value)} (r : KV kvs vs) (k : κ) {y : V} {u : Value} (ry : RelV y u) : KV (qO kvs k y) (stored vs k u) := by
 unfold qO stored;rw [r.any k];by_cases e : (vs.any fun kv => decide (kv.1 = k)) = true
 ·rw [if_pos e, if_pos e]; exact r.repl k ry
 ·rw [if_neg e, if_neg e]; exact Paired.snoc r ⟨rfl, ry⟩
theorem KV.length {kvs : List (κ × V)} {vs : List (κ × Value)} (r : KV kvs vs) : kvs.length = vs.length := Paired.length r
end
theorem zsi {P : Program} {w : World} {k : Key} {u : Value} (r : RelV (kV k) u) : (y6 P w).is k u = true := by
 cases k with
 | inl i => obtain ⟨t, e⟩ := (show ∃ t, u = Value.int i t from r); subst e; exact ziw P w i t
 | inr x => obtain ⟨t, e⟩ := (show ∃ t, u = Value.str x t from r); subst e; exact ziv P w x t
theorem zfe {P : Program} {w : World} : ∀ {ks : List Key} {us : List Value}, Vals (ks.map kV) us -> ItemsAre (y6 P w) ks us
 | [], _, r => by rw [List.map_nil] at r; cases r; exact .nil
 | k :: ks, _, r => by
  rw [Qm] at r;cases r with
  | cons h t => exact .cons (zsi h) (zfe t)
abbrev KT (H : Hp) : List (List Key × V) -> List (List Key × Addr × Value) -> Prop := Paired fun p q => p.1 = q.1 /\ H q.2.1 = some (.tup (p.1.map kV)) /\ RelV p.2 q.2.2
theorem KT.val {H : Hp} {kvs : List (List Key × V)} {xs : List (List Key × Addr × Value)} (r : KT H kvs xs) (k : List Key) : RelO (w9 kvs k) ((atKey xs k).map (·.2)) := by
 induction r with
 | nil => exact True.intro
 | @cons p q ps qs h t ih =>
  obtain ⟨h1, _, h2⟩ := h;by_cases e : p.1 = k
  ·have e' : q.1 = k := h1.symm.trans e;have b : atKey (q :: qs) k = some q.2 := by simp [atKey, List.find?_cons, e']
   rw [xU e, b]; exact h2
  ·have e' : ¬ q.1 = k := fun z => e (h1.trans z);have b : atKey (q :: qs) k = atKey qs k := by simp [atKey, List.find?_cons, e']
   rw [xV e, b]; exact ih
theorem KT.repl {H : Hp} {kvs : List (List Key × V)} {xs : List (List Key × Addr × Value)} (r : KT H kvs xs) (k : List Key) {y : V} {u : Value} (ry : RelV y u) :
  KT H (kvs.map fun kv => if kv.1 = k then (kv.1, y) else kv) (xs.map (putAt k u)) := by
 induction r with
 | nil => exact .nil
 | @cons p q ps qs h t ih =>
  rw [Qm, Qm];refine .cons ?_ ih;obtain ⟨h1, h2, h3⟩ := h;unfold putAt;by_cases e : p.1 = k
  ·rw [if_pos e, if_pos (h1.symm.trans e)]; exact ⟨h1, h2, ry⟩
  ·rw [if_neg e, if_neg (fun z => e (h1.trans z))]; exact ⟨h1, h2, h3⟩
theorem KT.put {H : Hp} {kvs : List (List Key × V)} {xs : List (List Key × Addr × Value)} (r : KT H kvs xs) (k : List Key) {b : Addr} {y : V} {u : Value} (hb : H b = some (.tup (k.map kV))) (ry : RelV y u) :
  KT H (qO kvs k y) (storedH xs k b u) := by
 have e : (kvs.any fun kv => decide (kv.1 = k)) = (atKey xs k).isSome := by
  rw [kK, (r.val k).isSome_eq, Option.isSome_map]
 unfold qO storedH;rw [e];by_cases q : (atKey xs k).isSome = true
 ·rw [if_pos q, if_pos q]; exact r.repl k ry
 ·rw [if_neg q, if_neg q]; exact Paired.snoc r ⟨rfl, hb, ry⟩
theorem KT.keeps {H H' : Hp} {kvs : List (List Key × V)} {xs : List (List Key × Addr × Value)} (r : KT H kvs xs) (ht : ∀ b ys, H b = some (.tup ys) -> H' b = some (.tup ys)) : KT H' kvs xs :=
 Paired.mapP r fun _ _ z => ⟨z.1, ht _ _ z.2.1, z.2.2⟩
section
variable {P : Program} {w : World} {H : Hp} {h : Heap} {a : Addr}
theorem zAo {u : HO} (ok : HOk P w H h) (e : Rd H a u) : ObjOk P w H h a u := e.ok ok
theorem zml {kvs : List (Key × V)} (ok : HOk P w H h) (e : Rd H a (.dK kvs)) : kvs.length <= sizeLine /\ (a == sysModules) = false /\ ∃ vs, KV kvs vs /\ h.DictOf (y6 P w) a vs :=
 show ObjOk P w H h a (.dK kvs) from zAo ok e
theorem zFv {kvs : List (Key × V)} (ok : HOk P w H h) (e : H a = some (.dK kvs)) : kvs.length <= sizeLine /\ (a == sysModules) = false /\ ∃ vs, KV kvs vs /\ h.DictOf (y6 P w) a vs := zml ok (.inl e)
theorem zik {ks : List Key} (ok : HOk P w H h) (e : H a = some (.tup (ks.map kV))) : (tupleKind (y6 P w)).is h ks a := by
 obtain ⟨_, its, r, o, h1, h2, n, h3⟩ := (show ObjOk P w H h a (.tup (ks.map kV)) from ok a _ e);exact ⟨o, its.toArray, n, h1, h2, h3, by simpa using zfe r⟩
theorem zmk {kvs : List (List Key × V)} (ok : HOk P w H h) (e : Rd H a (.dT kvs)) : kvs.length <= sizeLine /\ (a == sysModules) = false /\
  ∃ xs, KT H kvs xs /\ h.DictOfH (tupleKind (y6 P w)) a xs := by
 obtain ⟨z, y, xs, r, o, es, ep, h1, h2, h3, h4, h5⟩ := (show ObjOk P w H h a (.dT kvs) from zAo ok e);refine ⟨z, y, xs, r, o, es, ep, h1, h2, h3, h4, fun x hx => ?_, h5⟩;have all : ∀ {l : List (List Key × V)} {m : List (List Key × Addr × Value)}, KT H l m -> ∀ x ∈ m, (tupleKind (y6 P w)).is h x.1 x.2.1 := by
  intro l m q
  induction q with
  | nil => intro x hx; exact nomatch hx
  | @cons p q ps qs hq t ih =>
   intro x hx;rcases Qs.mp hx with e | hx
   ·subst e;exact zik ok (by rw [<- hq.1]; exact hq.2.1)
   ·exact ih x hx
 exact all r x hx
theorem zFs {kvs : List (List Key × V)} (ok : HOk P w H h) (e : H a = some (.dT kvs)) : kvs.length <= sizeLine /\ (a == sysModules) = false /\
  ∃ xs, KT H kvs xs /\ h.DictOfH (tupleKind (y6 P w)) a xs := zmk ok (.inl e)
end
def DGet (H : Hp) (a : Addr) (y : V) (r : Option V) : Prop :=
 (∃ kvs k, Rd H a (.dK kvs) /\ y = kV k /\ r = w9 kvs k) \/ ∃ kvs k b, Rd H a (.dT kvs) /\ y = .ref b /\ H b = some (.tup (k.map kV)) /\ r = w9 kvs k
def DPut (H : Hp) (a : Addr) (y v : V) (H' : Hp) : Prop :=
 (∃ kvs k, H a = some (.dK kvs) /\ y = kV k /\ kvs.length < sizeLine /\ H' = upd H a (.dK (qO kvs k v))) \/
 ∃ kvs k b, H a = some (.dT kvs) /\ y = .ref b /\ H b = some (.tup (k.map kV)) /\ kvs.length < sizeLine /\ H' = upd H a (.dT (qO kvs k v))
theorem DGet.k {H : Hp} {a : Addr} {kvs : List (Key × V)} {k : Key} (e : H a = some (.dK kvs)) : DGet H a (kV k) (w9 kvs k) := .inl ⟨kvs, k, .inl e, rfl, rfl⟩
theorem DGet.t {H : Hp} {a b : Addr} {kvs : List (List Key × V)} {k : List Key} (e : H a = some (.dT kvs)) (eb : H b = some (.tup (k.map kV))) : DGet H a (.ref b) (w9 kvs k) := .inr ⟨kvs, k, b, .inl e, rfl, eb, rfl⟩
theorem DPut.k {H : Hp} {a : Addr} {kvs : List (Key × V)} {k : Key} {v : V} (e : H a = some (.dK kvs)) (hl : kvs.length < sizeLine) : DPut H a (kV k) v (upd H a (.dK (qO kvs k v))) := .inl ⟨kvs, k, e, rfl, hl, rfl⟩
theorem DPut.t {H : Hp} {a b : Addr} {kvs : List (List Key × V)} {k : List Key} {v : V} (e : H a = some (.dT kvs)) (eb : H b = some (.tup (k.map kV))) (hl : kvs.length < sizeLine) :
  DPut H a (.ref b) v (upd H a (.dT (qO kvs k v))) := .inr ⟨kvs, k, b, e, rfl, eb, hl, rfl⟩
section
variable {X : Cx} {pins : List (Addr × Obj)} {σ : St} {H : Hp} {s : Shared} {a : Addr} {y v : V} {u r : Value} {o : Option V} {A : Around} {E : Value -> Shared -> Prop}
theorem Inv.big (I : Inv X pins σ H s) : sysModules < s.heap.objs.size := by
 have h : mainGlobals < s.heap.objs.size := (I.mod.glob.keeps I.bk).lt;exact Nat.lt_trans (by decide) h
theorem zqz {Q : Value -> Shared -> Prop} (hu : A.units + 1 < cLine) (I : Inv X pins σ H s) (g : DGet H a y (some v)) (ry : RelV y u) (h : ∀ w' s', Inv X pins σ H s' -> RelV v w' -> Q w' s') :
  wpAny (model X.prog X.w) A (getItem (.ref a) u) Q E s := by
 rcases g with ⟨kvs, k, e, ey, l⟩ | ⟨kvs, k, b, e, ey, eb, l⟩
 ·subst ey;obtain ⟨z, hd, vs, rel, dd⟩ := zml I.hok e;obtain ⟨w', hw, rw'⟩ := RelO.some_of (v := v) (o := valueAt vs k) (by rw [l]; exact rel.val k);exact wpAny_getItem_of (zsi ry) dd.mapOf hw (h w' _ (I.tok _) rw')
 ·subst ey;cases (show u = Value.ref b from ry)
  obtain ⟨z, hd, xs, rel, dd⟩ := zmk I.hok e;obtain ⟨w', hw, rw'⟩ := RelO.some_of (v := v) (o := (atKey xs k).map (·.2)) (by rw [l]; exact rel.val k);obtain ⟨p, hp, hp2⟩ := Option.map_eq_some_iff.mp hw;refine wpAny_getItem_heap (tupleKind_room_in1 hu) (zik I.hok eb) dd hp ?_;rw [hp2];exact h w' _ (I.tok _) rw'
theorem zpd {h' : Heap} {t' : Nat} {ob : HO} (I : Inv X pins σ H s) (mu : Mut (H a)) (hs : Heap.SameBut a s.heap h') (he : ∃ q, h'.get? a = some q) (new : ObjOk X.prog X.w (upd H a ob) h' a ob) :
  Inv X pins σ (upd H a ob) { s with heap := h', toks := t' } :=
 I.write (x := a) (e := a) mu (.inl rfl) (fun b q hb z => (hs.2 b hb).trans z) he new
theorem zDr {P : Program} {w : World} {H' : Hp} {h' : Heap} {kvs : List (Key × V)} {vs : List (Key × Value)} (z : kvs.length <= sizeLine) (hd : (a == sysModules) = false) (rel : KV kvs vs) (dd : h'.DictOf (y6 P w) a vs) :
  ObjOk P w H' h' a (.dK kvs) := ⟨z, hd, vs, rel, dd⟩
theorem zqy {H' : Hp} {Q : Unit -> Shared -> Prop} (hu : A.units + 1 < cLine) (I : Inv X pins σ H s) (g : DPut H a y v H') (ry : RelV y u) (rv : RelV v r) (h : ∀ s', Inv X pins σ H' s' -> Q () s') :
  wpAny (model X.prog X.w) A (setItem (.ref a) u r) Q E s := by
 rcases g with ⟨kvs, k, e, ey, l, eH⟩ | ⟨kvs, k, b, e, ey, eb, l, eH⟩
 ·subst ey eH;obtain ⟨z, hd, vs, rel, dd⟩ := zFv I.hok e;have hz : vs.length <= sizeLine := by rw [<- rel.length]; exact z
  have hl : (qO kvs k v).length <= sizeLine := by have := vB kvs k v; lia
  refine wpAny_setItem_pairs (hsz := hz) (zsi ry) dd fun h' dd' hs => h _ ?_;have he : ∃ q, h'.get? a = some q := let ⟨q, _, _, hq, _⟩ := dd'; ⟨q, hq⟩;exact zpd I (by rw [e]; exact True.intro) hs he (zDr hl hd (rel.put k rv) dd')
 ·subst ey eH;cases (show u = Value.ref b from ry)
  obtain ⟨z, hd, xs, rel, dd⟩ := zFs I.hok e;have hz : xs.length <= sizeLine := by rw [<- Paired.length rel]; exact z
  have hl : (qO kvs k v).length <= sizeLine := by have := vB kvs k v; lia
  refine wpAny_setItem_heap (hsz := hz) (tupleKind_room_in1 hu) (zik I.hok eb) dd fun h' dd' hs => h _ ?_;obtain ⟨q, es, ep, hq, h2, h3, h4, _, h5⟩ := dd';refine zpd I (by rw [e]; exact True.intro) hs ⟨q, hq⟩ ⟨hl, hd, _, (rel.put k eb rv).keeps fun c ys ec => ?_, q, es, ep, hq, h2, h3, h4, h5⟩;rw [zU (zee ec e (fun z => nomatch z))]
  exact ec
end
section
variable {X : Cx} {pins : List (Addr × Obj)} {σ : St} {H : Hp} {s : Shared} {a : Addr} {kvs : List (Key × V)} {k : Key} {u : Value} {A : Around} {E : Value -> Shared -> Prop}
end
def zGw (i : Expr) : Prop := ∀ ov iv, subscripted i false ov iv = operate [ov, iv] (getItem ov iv)
theorem zxn {prog : Program} {w : World} {A : Around} {E : Value -> Shared -> Prop} {s : Shared} {env : Env} {value slice : Expr} {pos : Pos} {T id : String} {Q : Value -> Shared -> Prop}
  (hl : typeLookup (.type T) "__getitem__" = pure (some (.builtin id))) (hs : zGw slice)
  (h : wpAny (model prog w) A (eval value env) (fun o s₁ => wpAny (model prog w) A (eval slice env) (fun i s₂ => s₂.TypeIs o T /\ wpAny (model prog w) A (getItem o i) Q E s₂) E s₁) E s) :
  wpAny (model prog w) A (eval (.Subscript value slice pos) env) Q E s := by
 refine Subscript_ (wpAny_mono h (fun o s₁ h₁ => wpAny_mono h₁ (fun i s₂ h₂ => ?_) fun _ _ x => x) fun _ _ x => x);obtain ⟨hT, h₂⟩ := h₂;unfold subscriptTail;refine Qq ?_;rw [getitemInPython_of_ne hT.not_modules];refine Qq (wpAny_specialOf hT hl ?_);have fin : wpAny (model prog w) A (subscripted slice false o i) (fun r s₃ => wpAny (model prog w) A (letTemporaryGo value o r >>= fun _ => pure r) Q E s₃) E s₂ := by
  rw [hs o i];exact wpAny_operating (wpAny_mono h₂ (fun r s₃ h₃ => Qq (wpAny_letTemporaryGo (Qv h₃))) fun _ _ x => x)
 first
  | exact Qv (Qq fin)
  | exact Qq (Qv (Qq fin))
  | exact Qq fin
theorem zix {X : Cx} {pins : List (Addr × Obj)} {σ : St} {H : Hp} {s : Shared} {a : Addr} {y : V} {o : Option V} (I : Inv X pins σ H s) (g : DGet H a y o) : s.TypeIs (.ref a) "dict" := by
 rcases g with ⟨kvs, k, e, _, _⟩ | ⟨kvs, k, b, e, _, _, _⟩
 ·obtain ⟨_, _, vs, _, dd⟩ := zml I.hok e;exact dd.typeIs
 ·obtain ⟨_, _, xs, _, dd⟩ := zmk I.hok e;exact dd.typeIs
def zFc (td ty : TE) : TE := fun σ H Q => td σ H fun x H1 => ty σ H1 fun y H2 => ∃ a v, x = .ref a /\ DGet H2 a y (some v) /\ Q v H2
def zFe (td ty tv : TE) : TS := fun D σ H => tv σ H fun v H1 => td σ H1 fun x H2 => ty σ H2 fun y H3 => ∃ a H4, x = .ref a /\ DPut H3 a y v H4 /\ D.nx σ H4
section
variable {X : Cx} {o i e value : Expr} {pos pos' tpos : Pos} {td ty tv : TE}
theorem zoj (hu : X.A.units + 1 < cLine) (ho : PE X o td) (hi : PE X i ty) (hs : zGw i) : PE X (.Subscript o i pos) (zFc td ty) := by
 intro pins s σ H Q I h;refine zxn PySem.F.slot_dict_getitem.lookup hs (thn (ho pins s σ H _ I h) fun u s1 ⟨x, H1, I1, rx, q1⟩ => thn (hi pins s1 σ H1 _ I1 q1) fun iv s2 ⟨y, H2, I2, ry, a, v, ex, g, q2⟩ => ?_);subst ex;obtain rfl : u = Value.ref a := rx;exact ⟨zix I2 g, zqz hu I2 g ry fun w' s3 I3 rw' => ⟨v, H2, I3, rw', q2⟩⟩
theorem zgu (hu : X.A.units + 1 < cLine) (ho : PE X o td) (hi : PE X i ty) (hv : PE X value tv) (hs : swapsWith value (some (.Subscript o i pos')) pos.line X.env = pure false) :
  PS X (.Assign [.Subscript o i pos'] value pos) (zFe td ty tv) := by
 intro pins s σ H D I h;refine wpAny_Assign_Subscript (thn (hv pins s σ H _ I h) fun r s1 ⟨v, H1, I1, rv, q1⟩ => thn (ho pins s1 σ H1 _ I1 q1) fun u s2 ⟨x, H2, I2, rx, q2⟩ => thn (hi pins s2 σ H2 _ I2 q2) fun iv s3 ⟨y, H3, I3, ry, a, H4, ex, g, q3⟩ => ?_) hs;subst ex;obtain rfl : u = Value.ref a := rx;exact zqy hu I3 g ry rv fun s4 I4 => ⟨σ, H4, I4, q3⟩
end
theorem zum {P : Program} {w : World} {H : Hp} (h : Heap) (hb : sysModules < h.objs.size) : ObjOk P w H (h.push { cls := .type "dict", data := .dict #[] }) h.objs.size (.dK []) :=
 ⟨Jj _, beq_eq_false_iff_ne.mpr (Ne.symm (Q7 hb)), [], .nil, Heap.DictOf.new h⟩
theorem zuk {P : Program} {w : World} {H : Hp} (h : Heap) (hb : sysModules < h.objs.size) : ObjOk P w H (h.push { cls := .type "dict", data := .dict #[] }) h.objs.size (.dT []) :=
 ⟨Jj _, beq_eq_false_iff_ne.mpr (Ne.symm (Q7 hb)), [], .nil, _, #[], 0, Qb _ rfl, ⟨rfl, rfl, rfl⟩, rfl, rfl, List.nodup_nil⟩
def zBq : TE := fun _ H Q => ∀ p, H p = none -> Q (.ref p) (upd H p (.dK []))
def zBp : TE := fun _ H Q => ∀ p, H p = none -> Q (.ref p) (upd H p (.dT []))
section
variable {X : Cx} {pos : Pos}
theorem ztp : PE X (.Dict [] [] pos) zBq := fun pins s σ H Q I h =>
 wpAny_Dict_empty ⟨.ref s.heap.objs.size, _, I.laid (a := s.heap.objs.size) (o := .dK []) (t' := s.toks) (fun _ _ q => Qz _ q) (Qw _) (zum s.heap I.big), rfl, h _ (I.hok.fresh (Qw _))⟩
theorem zke : PE X (.Dict [] [] pos) zBp := fun pins s σ H Q I h =>
 wpAny_Dict_empty ⟨.ref s.heap.objs.size, _, I.laid (a := s.heap.objs.size) (o := .dT []) (t' := s.toks) (fun _ _ q => Qz _ q) (Qw _) (zuk s.heap I.big), rfl, h _ (I.hok.fresh (Qw _))⟩
end
structure M1 (X : Cx) (o : Expr) (m : Str) (apos : Pos) (e : Expr) (cpos : Pos) : Prop where
 base : attributeBase o m X.env (eval o X.env) = eval o X.env
 few : ((backTo cpos (starEach [e] X.env)).all (fun x => !x.1) && (backToKw cpos (keywordEach [] X.env)).all (fun x => x.1.isSome)
  && decide (([e] : List Expr).length + ([] : List Keyword).length + (if ([] : List Keyword).isEmpty then 0 else 1) < 30)) = true
 line : (apos.endLine == cpos.line) = true
 trees : backTo cpos (starEach [e] X.env) = [(false, eval e X.env)]
structure M2 (X : Cx) (o : Expr) (m : Str) (apos : Pos) (e f : Expr) (cpos : Pos) : Prop where
 base : attributeBase o m X.env (eval o X.env) = eval o X.env
 few : ((backTo cpos (starEach [e, f] X.env)).all (fun x => !x.1) && (backToKw cpos (keywordEach [] X.env)).all (fun x => x.1.isSome)
  && decide (([e, f] : List Expr).length + ([] : List Keyword).length + (if ([] : List Keyword).isEmpty then 0 else 1) < 30)) = true
 line : (apos.endLine == cpos.line) = true
 trees : backTo cpos (starEach [e, f] X.env) = [(false, eval e X.env), (false, eval f X.env)]
def IsD (H : Hp) (a : Addr) : Prop := (∃ kvs, Rd H a (.dK kvs)) \/ ∃ kvs, Rd H a (.dT kvs)
theorem zDp {X : Cx} {pins : List (Addr × Obj)} {σ : St} {H : Hp} {s : Shared} {a : Addr} (I : Inv X pins σ H s) (d : IsD H a) :
  s.TypeIs (.ref a) "dict" /\ (∀ b, Value.ref a = .ref b -> ∃ ob, s.heap.get? b = some ob /\ ob.dict = none) /\ (a == sysModules) = false := by
 rcases d with ⟨kvs, e⟩ | ⟨kvs, e⟩
 ·obtain ⟨_, hd, vs, _, dd⟩ := zml I.hok e;refine ⟨dd.typeIs, fun b q => ?_, hd⟩;cases q
  obtain ⟨ob, _, _, h1, h2, _⟩ := dd;exact ⟨ob, h1, h2.2.1⟩
 ·obtain ⟨_, hd, xs, _, dd⟩ := zmk I.hok e;refine ⟨dd.typeIs, fun b q => ?_, hd⟩;cases q
  obtain ⟨ob, _, _, h1, h2, _⟩ := dd;exact ⟨ob, h1, h2.2.1⟩
section
variable {X : Cx} {pins : List (Addr × Obj)} {σ : St} {H : Hp} {s : Shared} {a : Addr} {y d : V} {u r : Value} {o : Option V} {A : Around} {E : Value -> Shared -> Prop}
theorem zEb {Q : Value -> Shared -> Prop} (hu : A.units + 1 < cLine) (I : Inv X pins σ H s) (g : DGet H a y o) (ry : RelV y u) (rd : RelV d r) (h : ∀ w' s', Inv X pins σ H s' -> RelV (o.getD d) w' -> Q w' s') :
  wpAny (model X.prog X.w) A (call (.builtin "dict.get") [.ref a, u, r]) Q E s := by
 rcases g with ⟨kvs, k, e, ey, l⟩ | ⟨kvs, k, b, e, ey, eb, l⟩
 ·subst ey;obtain ⟨z, hd, vs, rel, dd⟩ := zml I.hok e;refine call_meetsIn PySem.F.slot_dict_get dd.typeIs PySem.F.entry_dict_get (PySem.F.args_dict_get_3 _ _ _) (meets_dict_get_default (y6 X.prog X.w) a (zsi ry) hd r) ⟨_, dd.mapOf, h _ _ (I.tok _) ?_⟩;rw [l];exact (rel.val k).getD rd
 ·subst ey;cases (show u = Value.ref b from ry)
  obtain ⟨z, hd, xs, rel, dd⟩ := zmk I.hok e;refine call_meetsIn PySem.F.slot_dict_get dd.typeIs PySem.F.entry_dict_get (PySem.F.args_dict_get_3 _ _ _) (meetsH_dict_get_default (tupleKind (y6 X.prog X.w)) a b hd r) ⟨tupleKind_room_in1 hu, k, xs, zik I.hok eb, dd, h _ _ (I.tok _) ?_⟩;rw [l];exact (rel.val k).getD rd
end
def zBr (td ty tx : TE) : TE := fun σ H Q => td σ H fun x H1 => ∃ a, x = .ref a /\ IsD H1 a /\ ty σ H1 fun y H2 => tx σ H2 fun z H3 => ∃ o, DGet H3 a y o /\ Q (o.getD z) H3
section
variable {X : Cx} {o e f : Expr} {apos cpos : Pos} {td ty tx : TE}
theorem zkf (hu : X.A.units + 1 < cLine) (ho : PE X o td) (he : PE X e ty) (hf : PE X f tx) (m : M2 X o "get" apos e f cpos) : PE X (.Call (.Attribute o "get" apos) [e, f] [] cpos) (zBr td ty tx) := by
 intro pins s σ H Q I h;refine wpAny_Call_method m.base m.few m.line PySem.F.plainAttrs_dict PySem.F.slot_dict_get PySem.F.type_dict_get (thn (ho pins s σ H _ I h) fun u s1 ⟨x, H1, I1, rx, a, ex, d, q1⟩ => ?_);subst ex;obtain rfl : u = Value.ref a := rx;obtain ⟨t1, t2, _⟩ := zDp I1 d;refine ⟨t1, t2, ?_⟩;rw [m.trees];refine Calls.callWith_builtin rfl (Calls.evalArgs_plain (Calls.spliced_cons (thn (he pins s1 σ H1 _ I1 q1) fun iv s2 ⟨y, H2, I2, ry, q2⟩ =>
  Calls.spliced_cons (thn (hf pins s2 σ H2 _ I2 q2) fun fv s3 ⟨z, H3, I3, rz, ov, g, q3⟩ => Calls.spliced_nil ?_))))
 exact zEb hu I3 g ry rz fun w' s4 I4 rw' => ⟨_, H3, I4, rw', q3⟩
end
section
variable {X : Cx} {pins : List (Addr × Obj)} {σ : St} {H : Hp} {s : Shared} {a : Addr} {kvs : List (Key × V)} {A : Around} {E : Value -> Shared -> Prop}
end
section
variable {X : Cx} {pins : List (Addr × Obj)} {σ : St} {H : Hp} {s : Shared} {a : Addr} {y : V} {u : Value} {A : Around} {E : Value -> Shared -> Prop}
end
section
variable {prog : Program} {w : World} {A : Around} {E : Value -> Shared -> Prop} {s : Shared} {it d v : Addr} {i ep : Nat} {es : Array DictEntry} {o : Obj}
theorem zme {Q : Value -> Shared -> Prop} (hs : (d == sysModules) = false) (ho : s.heap.get? d = some o) (hx : o.ExactDict)
  (q : Q (.ref s.heap.objs.size) { s with heap := s.heap.push { cls := .type "dict_items", data := .fields #[.ref d] } }) : wpAny (model prog w) A (call (.builtin "dict.items") [.ref d]) Q E s := by
 have ty : s.TypeIs (.ref d) "dict" := ⟨o, ho, hx.1⟩;refine Jd F.slot_dict_items ty F.entry_dict_items ?_ (F.args_dict_items_1 _);unfold Builtin.«dict.items»;refine Qq ?_;unfold Builtin.Dict.noArgs;refine Qq (wpAny_notOrdered_dict ty ?_);show wpAny _ _ (pure d) _ _ s;refine Qv ?_;show wpAny _ _ (Builtin.Dict.showsAll d >>= _) _ _ s;unfold Builtin.Dict.showsAll;rw [if_neg (by rw [hs]; exact Q1)];exact Qq (Qv (Qq (Jg (Qv ⟨_, rfl, q⟩))))
theorem zmd {Q : Value -> Shared -> Prop} (hv : s.heap.IsItemsView v d) (ho : s.heap.get? d = some o) (hd : o.data = .dict es ep)
  (q : Q (.ref s.heap.objs.size) { s with heap := s.heap.push { cls := .type "dict_itemiterator", data := .fields #[.none, .bool false, .ref d, .int 0 0, .int es.size 0, .int ep 0, .none, .none] } }) :
  wpAny (model prog w) A (pyIter (.ref v)) Q E s := by
 obtain ⟨ov, h1, h2, h3⟩ := id hv;refine wpAny_pyIter_slot hv.typeIs F.slot_dict_items_iter (Jd F.slot_dict_items_iter hv.typeIs F.entry_dict_items_iter ?_ (F.args_dict_items_iter_1 _));unfold Builtin.«dict_items.__iter__»;refine Qq (Qv (Qq ?_));unfold Builtin.Dict_items.dictOf;refine Qq (wpAny_field h1 h3 (x := .ref d) rfl (Qv (Qq ?_)));unfold Builtin.Dict_items.newIterator;refine Qq (wpAny_dictEntries ho hd (Qq (wpAny_dictEpoch ho hd ?_)));simp only [show Builtin.Dict_items.ownsTuple "dict_itemiterator" = true from by decide, if_true];refine Jg (Qv ⟨_, rfl, "dict_itemiterator", _, ⟨_, Qb _ rfl, rfl⟩, F.slot_dict_itemiterator_next.lookup, ?_⟩) (by simp only [sizeOk, Builtin.Dict_items.ownedTupleFields, Qh, Q3, Jh, List.length_nil, sizeLine_eq]; lia)
 simpa [rawInt, Builtin.Dict_items.ownedTupleFields] using q
theorem zmc {e : DictEntry} {ok ov : Value} {Q : Option Value -> Shared -> Prop} (hit : IsItemIter s.heap it d i es.size ep ok ov) (ho : s.heap.get? d = some o) (hd : o.data = .dict es ep) (hx : es[i]? = some e)
  (q : ∀ h', IsItemIterOut h' it d (i + 1) es.size ep e.key e.val s.heap.objs.size -> h'.get? s.heap.objs.size = some { cls := .type "tuple", data := .seq #[e.key, e.val] } ->
   (∀ b o, b ≠ it -> s.heap.get? b = some o -> h'.get? b = some o) -> Q (some (.ref s.heap.objs.size)) { s with heap := h' }) : wpAny (model prog w) A (pyNext (.ref it)) Q E s := by
 obtain ⟨hp, g, dr, tk, os⟩ := s;have ty : Shared.TypeIs ⟨hp, g, dr, tk, os⟩ (.ref it) "dict_itemiterator" := ⟨_, hit, rfl⟩;unfold pyNext;refine Qq (wpAny_attempt (wpAny_callSpecial?_slot (name := Str.ofString "__next__") ty F.slot_dict_itemiterator_next (Jd F.slot_dict_itemiterator_next ty F.entry_dict_itemiterator_next ?_ (F.args_dict_itemiterator_next_1 _))));refine Qq (Qv (Qq (Qq (Qq (wpAny_typeNameOfWhole_itemiter ty (Qv (Qq (wpAny_fieldsOf hit rfl ?_))))))));simp only [show Builtin.Dict_items.ownsTuple "dict_itemiterator" = true from by decide, if_true];show wpAny _ _ (if (Value.ref d == Value.none) = true then _ else _) _ _ _;rw [if_neg (show ¬ (Value.ref d == Value.none) = true from Q1)];refine Qq (Qv (Qq (wpAny_dictEntries ho hd ?_)));rw [if_neg (by simp)];refine Qq (Qv (Qq (wpAny_dictEpoch ho hd ?_)));rw [if_neg (by simp)];refine Qv ?_;simp only [show ¬ ((i : Int) < 0) from by lia, if_false, Q4, hx];refine Qq (Qq (wpAny_typeNameOfWhole_itemiter ty (Qv (Qq (wpAny_isOneOf_itemiter ty ?_)))));show wpAny _ _ (setField (.ref it) 3 (rawInt ((i : Int) + 1)) >>= _) _ _ ⟨hp, g, dr, tk, os⟩;refine Qq (wpAny_setField_rec hit (by simp) fun g1 e1 b1 => ?_)
 replace b1 : Heap.SameBut it hp g1 := b1
 replace e1 : IsItemIter g1 it d (i + 1) es.size ep ok ov := by
  unfold IsItemIter;rw [show ((i + 1 : Nat) : Int) = (i : Int) + 1 by lia]
  simpa [rawInt] using e1
 have ty1 : Shared.TypeIs ⟨g1, g, dr, tk, os⟩ (.ref it) "dict_itemiterator" := ⟨_, e1, rfl⟩;refine Qq (wpAny_holding (Qq (wpAny_isOneOf_itemiter ty1 (Qq (wpAny_isOneOf_itemiter ty1 ?_)))));show wpAny _ _ (Builtin.Dict_items.pairFromOwner (.ref it) 6 e.key e.val) _ _ ⟨g1, g, dr, tk, os⟩;unfold Builtin.Dict_items.pairFromOwner;refine Qq (wpAny_newTuple ?_);have e2 : IsItemIter (g1.push { cls := .type "tuple", data := .seq #[e.key, e.val] }) it d (i + 1) es.size ep ok ov := Qz _ e1;have z1 : g1.objs.size = hp.objs.size := b1.1;have il : it < hp.objs.size := Qt hit;have t2 : (g1.push { cls := .type "tuple", data := .seq #[e.key, e.val] }).get? hp.objs.size = some { cls := .type "tuple", data := .seq #[e.key, e.val] } := by rw [<- z1]; exact Qb _ rfl
 have k2 : ∀ b o, b ≠ it -> hp.get? b = some o -> (g1.push { cls := .type "tuple", data := .seq #[e.key, e.val] }).get? b = some o := fun b o hb z => Qz _ (b1.extBut b o hb z);show wpAny _ _ (Builtin.Dict_items.ownedTupleIsFree (.ref it) >>= _) _ _ ⟨g1.push { cls := .type "tuple", data := .seq #[e.key, e.val] }, g, dr, tk, os⟩;rw [z1];generalize g1.push { cls := .type "tuple", data := .seq #[e.key, e.val] } = g2 at e2 t2 k2;refine Qq ?_;unfold Builtin.Dict_items.ownedTupleIsFree;refine Qq (wpAny_field e2 rfl (x := Value.none) rfl (Qv ?_));simp only [if_true];refine Qq (wpAny_field e2 rfl (x := ok) rfl (Qq (wpAny_field e2 rfl (x := ov) rfl (Qq (wpAny_setField_rec e2 (by simp) fun g3 e3 b3 => ?_)))))
 replace b3 : Heap.SameBut it g2 g3 := b3
 replace e3 : IsItemIter g3 it d (i + 1) es.size ep e.key ov := e3
 refine Qq (wpAny_setField_rec e3 (by simp) fun g4 e4 b4 => ?_)
 replace b4 : Heap.SameBut it g3 g4 := b4
 replace e4 : IsItemIter g4 it d (i + 1) es.size ep e.key e.val := e4
 refine Qq (wpAny_setField_rec e4 (by simp) fun g5 e5 b5 => ?_)
 replace b5 : Heap.SameBut it g4 g5 := b5
 replace e5 : IsItemIterOut g5 it d (i + 1) es.size ep e.key e.val hp.objs.size := e5
 refine Qq (wpAny_setField_rec e5 (by simp) fun g6 e6 b6 => ?_)
 replace b6 : Heap.SameBut it g5 g6 := b6
 replace e6 : IsItemIterOut g6 it d (i + 1) es.size ep e.key e.val hp.objs.size := e6
 have up : ∀ b o, b ≠ it -> g2.get? b = some o -> g6.get? b = some o := fun b o hb z => b6.extBut b o hb (b5.extBut b o hb (b4.extBut b o hb (b3.extBut b o hb z)));exact Qq (wpAny_letGo (Qv (Qv ⟨_, rfl, Qv (q g6 e6 (up _ _ (Nat.ne_of_gt il) t2) fun b o hb z => up b o hb (k2 b o hb z))⟩)))
theorem zqp {ok ov : Value} {Q : Option Value -> Shared -> Prop} (hh : A.handled = none) (hit : IsItemIter s.heap it d i es.size ep ok ov) (ho : s.heap.get? d = some o) (hd : o.data = .dict es ep) (hx : es.size <= i)
  (q : ∀ h', Heap.ExtBut it s.heap h' -> Q none { s with heap := h' }) : wpAny (model prog w) A (pyNext (.ref it)) Q E s := by
 have ty : s.TypeIs (.ref it) "dict_itemiterator" := ⟨_, hit, rfl⟩;unfold pyNext;refine Qq (wpAny_attempt (wpAny_callSpecial?_slot (name := Str.ofString "__next__") ty F.slot_dict_itemiterator_next (Jd F.slot_dict_itemiterator_next ty F.entry_dict_itemiterator_next ?_ (F.args_dict_itemiterator_next_1 _))));refine Qq (Qv (Qq (Qq (Qq (wpAny_typeNameOfWhole_itemiter ty (Qv (Qq (wpAny_fieldsOf hit rfl ?_))))))));simp only [show Builtin.Dict_items.ownsTuple "dict_itemiterator" = true from by decide, if_true];show wpAny _ _ (if (Value.ref d == Value.none) = true then _ else _) _ _ s;rw [if_neg (show ¬ (Value.ref d == Value.none) = true from Q1)];refine Qq (Qv (Qq (wpAny_dictEntries ho hd ?_)));rw [if_neg (by simp)];refine Qq (Qv (Qq (wpAny_dictEpoch ho hd ?_)));rw [if_neg (by simp)];refine Qv ?_;simp only [show ¬ ((i : Int) < 0) from by lia, if_false, Q4, Array.getElem?_eq_none hx];refine Qq (Qq (wpAny_typeNameOfWhole_itemiter ty (Qv ?_)));show wpAny _ _ (setField (.ref it) 2 .none >>= _) _ _ s;refine Qq (wpAny_setField hit rfl (by simp) ?_);show wpAny _ _ (newExc (.type "StopIteration") [] >>= _) _ _ _;refine Qq ?_;simp only [newExc, newTuple];refine Qq (Jg (Qq (m := firstArgMember _ _) (wpAny_of_eq (a := Value.none) (by first | rfl | (simp only [firstArgMember]; rfl)) (Jg ?_ (by size_fits)))) (by size_fits));simp only [raiseNew];refine Qq (wpAny_handled ?_);rw [show A.in1.handled = none from hh];refine Qq (Qv (wpAny_throw ?_));exact Qq (wpAny_isInstance (T := "StopIteration") (b := true) ⟨_, Qb _ rfl, rfl⟩ isSubtype_stop (Qv (q _ (((Heap.SameBut.update ..).extBut.push _).push _))))
end
abbrev qI := List (List Key × V)
section
variable {X : Cx} {pins : List (Addr × Obj)} {σ : St} {H : Hp} {s : Shared} {d : Addr} {kvs : qI}
theorem KT.at {H : Hp} : ∀ {kvs : qI} {xs : List (List Key × Addr × Value)} {i : Nat} {k : List Key} {v : V}, KT H kvs xs -> kvs[i]? = some (k, v) -> ∃ b u, xs[i]? = some (k, b, u) /\ H b = some (.tup (k.map kV)) /\ RelV v u
 | _, _, _, _, _, .nil, e => by simp at e
 | _, _, 0, k, v, .cons (a := p) (b := q) r _, e => by
  simp at e;subst e;obtain ⟨r1, r2, r3⟩ := r;obtain ⟨q1, q2, q3⟩ := q;cases (show k = q1 from r1)
  exact ⟨q2, q3, by simp, r2, r3⟩
 | _, _, i + 1, k, v, .cons _ t, e => by
  obtain ⟨b, u, h1, h2⟩ := KT.at (i := i) t (by simpa using e);exact ⟨b, u, by simpa using h1, h2⟩
theorem zgy {o : Obj} (I : Inv X pins σ H s) (h : H d = some (.frz o (.dT kvs))) : s.heap.get? d = some o /\ ∃ xs es ep, KT H kvs xs /\ o.ExactDict /\ o.data = .dict es ep /\ es.toList = xs.map (entryOfKey (tupleKind (y6 X.prog X.w))) := by
 obtain ⟨g, z, y, xs, r, o', es, ep, g', h1, h2, h3, _⟩ := I.hok d _ h;rw [g] at g';cases g'
 exact ⟨g, xs, es, ep, r, h1, h2, h3⟩
theorem zDq {o : Obj} {es : Array DictEntry} {ep : Nat} (I : Inv X pins σ H s) (h : H d = some (.frz o (.dT kvs))) (hd : o.data = .dict es ep) {i : Nat} {k : List Key} {v : V} (e : kvs[i]? = some (k, v)) :
  ∃ en b, es[i]? = some en /\ en.key = .ref b /\ H b = some (.tup (k.map kV)) /\ RelV v en.val := by
 obtain ⟨g, xs, es', ep', r, h1, h2, h3⟩ := zgy I h;rw [hd] at h2;cases h2
 obtain ⟨b, u, e1, e2, e3⟩ := KT.at r e;have e4 : es.toList[i]? = some (entryOfKey (tupleKind (y6 X.prog X.w)) (k, b, u)) := by rw [h3, Jz, e1]; rfl
 exact ⟨_, b, by rw [Array.getElem?_toList] at e4; exact e4, rfl, e2, e3⟩
theorem Inv.freeze (I : Inv X pins σ H s) (h : H d = some (.dT kvs)) : ∃ o es ep, s.heap.get? d = some o /\ o.ExactDict /\ o.data = .dict es ep /\ (d == sysModules) = false /\ es.size = kvs.length /\ Inv X pins σ (upd H d (.frz o (.dT kvs))) s := by
 obtain ⟨z, y, xs, r, o, es, ep, g, h1, h2, h3, h4⟩ := I.hok d _ h;refine ⟨o, es, ep, g, h1, h2, y, ?_, ?_⟩
 ·have := congrArg List.length h3;rw [Qj, <- Paired.length r] at this
  simpa using this
 ·refine I.write (x := d) (e := d) (h' := s.heap) (t' := s.toks) (by rw [h]; exact True.intro) (.inl rfl) (fun _ _ _ q => q) ⟨o, g⟩ ⟨g, z, y, xs, KT.keeps r fun c ys ec => ?_, o, es, ep, g, h1, h2, h3, h4⟩;rw [zU (zee ec h (fun z => nomatch z))]
  exact ec
end
def jV (v d : Addr) : HO := .ext fun h => h.IsItemsView v d
section
variable {X : Cx}
def zCj : V -> List V -> Hp -> VK -> Prop := fun x xs H Q => ∃ d kvs, x = .ref d /\ xs = [] /\ H d = some (.dT kvs) /\ ∀ v, H v = none -> Q (.ref v) (upd H v (jV v d))
theorem zkk : MtR X "dict.items" zCj := by
 intro pins s σ H x xs v us Q I rx r h;obtain ⟨d, kvs, rfl, rfl, hd, q⟩ := h;cases (show v = Value.ref d from rx)
 cases Vals.zero r
 obtain ⟨z, y, ys, rr, o, es, ep, g, h1, h2, h3, h4⟩ := I.hok d _ hd;refine zme y g h1 ⟨.ref s.heap.objs.size, _, I.laid (t' := s.toks) (o := jV s.heap.objs.size d) (fun b ob q => Qz _ q) (Qw _) ?_, rfl, q _ (I.hok.fresh (Qw _))⟩;exact ⟨⟨_, Qb _ rfl, rfl, rfl⟩, ⟨_, Qb _ rfl⟩, fun h1 h2 p k => let ⟨u, e, r⟩ := p; ⟨u, k _ e, r⟩⟩
end
def zEu (d : Addr) (o : Obj) (kvs : qI) : It :=
 ⟨fun i H => H d = some (.frz o (.dT kvs)) /\ i < kvs.length, fun i H x H' => ∃ T b k v, x = .ref T /\ H T = none /\ kvs[i]? = some (k, v) /\ H b = some (.tup (k.map kV)) /\ H' = upd H T (.tup [.ref b, v]), fun i H => H d = some (.frz o (.dT kvs)) /\ kvs.length <= i⟩
theorem zxj {P : Program} {w : World} {K : PySem.W.Frag} {elts : List Expr} {x1 : Nat} {tpos : Pos} (d it : Addr) (o : Obj) (es : Array DictEntry) (ep : Nat) (kvs : qI) (hd : o.data = .dict es ep) (hn : es.size = kvs.length) :
  zsn P w K (.Tuple elts x1 tpos) (zEu d o kvs) [it] it (fun i h => ∃ ok ov, IsItemIter h it d i es.size ep ok ov) where
 mem := by simp
 obj := fun i h st b hb => by
  have e : b = it := by simpa using hb
  subst e;obtain ⟨_, _, e⟩ := st;exact ⟨_, e, fun v z => by cases z⟩
 keep := fun i h h' st k => let ⟨ok, ov, e⟩ := st; ⟨ok, ov, k it (by simp) _ e⟩
 item := by
  intro X hP hw hK hc i pins s σ H E I hf st hg;subst hP hw hK;obtain ⟨hq, hi⟩ := hg;obtain ⟨ok, ov, st⟩ := st;obtain ⟨g, _⟩ := zgy I hq;obtain ⟨⟨k, v⟩, ek⟩ : ∃ p, kvs[i]? = some p := ⟨kvs[i], by simp [hi]⟩;obtain ⟨en, b, e1, e2, e3, e4⟩ := zDq I hq hd ek;refine zmc st g hd e1 fun h' a1 a2 a3 => ⟨_, rfl, ?_⟩;refine wpAny_letOwnedTupleGo_items (s := { s with heap := h' }) a1 fun h2 b1 b2 => ?_
  replace b2 : Heap.SameBut it h' h2 := b2
  have el : it < s.heap.objs.size := Qt st;have kk : ∀ b o, b ∉ [it] -> s.heap.get? b = some o -> h2.get? b = some o := fun b o hb q => by
   simp at hb;exact b2.extBut b o hb (a3 b o hb q)
  have tt : h2.get? s.heap.objs.size = some { cls := .type "tuple", data := .seq #[en.key, en.val] } := b2.extBut _ _ (Nat.ne_of_gt el) a2;have fr : H s.heap.objs.size = none := I.hok.fresh (Qw _);refine ⟨.ref s.heap.objs.size, upd H s.heap.objs.size (.tup [.ref b, v]), I.turnNew (t' := s.toks) hf kk (Qw _) ?_, rfl, ⟨_, b, k, v, rfl, fr, ek, e3, rfl⟩, ⟨_, _, b1⟩, fun c hc => ?_⟩
  ·exact ⟨by show 2 <= sizeLine; decide, [en.key, en.val], .cons e2 (.cons e4 .nil), ⟨_, tt, rfl, 0, rfl⟩⟩
  ·rw [zU]
   ·exact (hf c hc).1
   ·rw [Qx.mp hc];exact Q7 el
 done := by
  intro X hP hw hK hc i pins s σ H E I hf st hg;subst hP hw hK;obtain ⟨hq, hi⟩ := hg;obtain ⟨ok, ov, st⟩ := st;obtain ⟨g, _⟩ := zgy I hq;exact zqp (I.ok.hd hc) st g hd (by lia) fun h' q => ⟨rfl, I.turnM (t' := s.toks) hf fun b o hb z => q b o (fun y => hb (by simp [y])) z⟩
 self := fun _ _ _ _ _ st h => let ⟨_, _, he⟩ := st; PySem.W.kcp_self he h
def iDI (tv : TE) : TI := fun σ H R => tv σ H fun x H1 => ∃ v d kvs, x = .ref v /\ H1 v = some (jV v d) /\ H1 d = some (.dT kvs) /\ ∀ o, R (zEu d o kvs) (upd H1 d (.frz o (.dT kvs)))
theorem zez {X : Cx} {elts : List Expr} {x1 : Nat} {tpos : Pos} {l : Expr} {tl : TE} (hl : PE X l tl) : PI X (.Tuple elts x1 tpos) l (iDI tl) := by
 intro pins s σ H R I h;refine thn (hl pins s σ H _ I h) fun u s1 ⟨x, H1, I1, r1, q1⟩ => ?_;obtain ⟨v, d, kvs, rfl, hv, hq, q⟩ := q1;cases (show u = Value.ref v from r1)
 obtain ⟨vw, _⟩ := I1.hok v _ hv;obtain ⟨o, es, ep, g, y1, y2, y, hn, I2⟩ := I1.freeze hq;refine zmd vw g y2 ?_;refine ⟨s1.heap.objs.size, [s1.heap.objs.size], _, _, upd H1 d (.frz o (.dT kvs)), rfl, I2.kept (t' := s1.toks) fun b o e => Qz _ e, zxj d _ o es ep kvs y2 hn, ⟨_, _, Qb _ rfl⟩, fun b hb => ?_, q o⟩;have e : b = s1.heap.objs.size := by simpa using hb
 subst e;exact I2.fpOk (Qw _) (I2.hok.fresh (Qw _))
theorem zpf {d : Addr} {o : Obj} {kvs : qI} {g : TG} {tt : TT} {te : TE} {fin : List V -> Hp -> Prop} {σ : St} {H : Hp} (S : St -> Prop) (Pv : Nat -> List V -> Hp -> Prop) (hσ : S σ) (h0 : Pv 0 [] H) (hz : kvs.length < sizeLine)
  (hl : ∀ i ys H, Pv i ys H -> H d = some (.frz o (.dT kvs)))
  (hs : ∀ (i : Nat) (T b : Addr) (k : List Key) (v : V) (ys : List V) (σ : St) (H : Hp) (N : List V -> St -> Hp -> Prop), kvs[i]? = some (k, v) -> H T = none -> H b = some (.tup (k.map kV)) -> S σ -> Pv i ys H -> (∀ ys' σ' H', S σ' -> Pv (i + 1) ys' H' -> ys'.length <= ys.length + 1 -> N ys' σ' H') ->
   g (.ref T) σ (upd H T (.tup [.ref b, v])) fun σ2 H2 => tt σ2 H2 fun b H3 => if b = true then te σ2 H3 fun y H4 => N (ys ++ [y]) σ2 H4 else N ys σ2 H3)
  (hd : ∀ ys H, Pv kvs.length ys H -> fin ys H) : ∃ W, zej (zEu d o kvs) g tt te fin W /\ ∃ m, W 0 m [] σ H := by
 refine ⟨fun i m ys σ H => m = kvs.length - i /\ i <= kvs.length /\ ys.length <= i /\ S σ /\ Pv i ys H, ?_, kvs.length, by simp, Jj _, Qw _, hσ, h0⟩;rintro i m ys σ H ⟨rfl, hi, hy, hS, p⟩;by_cases hlt : i < kvs.length
 ·refine .inr ⟨⟨hl i ys H p, hlt⟩, by lia, fun x H' y => ?_⟩;obtain ⟨T, b, k, v, rfl, hT, ek, eb, rfl⟩ := y;exact hs i T b k v ys σ _ (fun ys' σ' H'' => ∃ m', m' < kvs.length - i /\ m' = kvs.length - (i + 1) /\ i + 1 <= kvs.length /\ ys'.length <= i + 1 /\ S σ' /\ Pv (i + 1) ys' H'') ek hT eb hS p (fun ys' σ' H'' a b c => ⟨_, by lia, rfl, hlt, by lia, a, b⟩)
 ·have e : i = kvs.length := by lia
  subst e;exact .inl ⟨⟨hl _ ys H p, Qw _⟩, by lia, hd ys H p⟩
end L2
namespace L2
open PySem PySem.W PyProof.Rows
inductive Ran (lt : Nat -> Nat -> Bool) (N : Nat) {α : Type} : KasT α -> α -> Prop
 | ret (a : α) : Ran lt N (.ret a) a
 | ask {i j : Nat} {k : Bool -> KasT α} {a : α} (hi : i < N) (hj : j < N) (h : Ran lt N (k (lt i j)) a) : Ran lt N (.ask i j k) a
theorem Ran.bind {lt : Nat -> Nat -> Bool} {N : Nat} {α β : Type} {t : KasT α} {a : α} {f : α -> KasT β} {b : β} (h : Ran lt N t a) (h2 : Ran lt N (f a) b) : Ran lt N (t.bind f) b := by
 induction h with
 | ret a => exact h2
 | ask hi hj _ ih => exact .ask hi hj (ih h2)
theorem Ran.wp {lt : Nat -> Nat -> Bool} {N : Nat} {α : Type} {t : KasT α} {a : α} {cmp : Nat -> Nat -> (Bool -> Shared -> Prop) -> Shared -> Prop} {s : Shared} {Q : α -> Shared -> Prop} (h : Ran lt N t a)
  (hc : ∀ i j C, i < N -> j < N -> C (lt i j) s -> cmp i j C s) (q : Q a s) : t.kasWp cmp Q s := by
 induction h with
 | ret a => exact q
 | ask hi hj _ ih => exact hc _ _ _ hi hj (ih q)
structure Ord (lt : Nat -> Nat -> Bool) : Prop where
 as : ∀ i j, lt i j = true -> lt j i = false
 tr : ∀ i j k, lt j i = false -> lt k j = false -> lt k i = false
theorem Ord.rf {lt : Nat -> Nat -> Bool} (o : Ord lt) (i : Nat) : lt i i = false := by
 cases h : lt i i with
 | false => rfl
 | true => have := o.as i i h; rw [h] at this; exact this
structure PB (N : Nat) (p : Array Nat) : Prop where
 perm : p.Perm (List.range N).toArray
theorem PB.size {N : Nat} {p : Array Nat} (h : PB N p) : p.size = N := by have := h.perm.size_eq; simpa using this
theorem PB.lt {N : Nat} {p : Array Nat} (h : PB N p) {i : Nat} (hi : i < N) : p.getD i 0 < N := by
 have hs : i < p.size := by rw [h.size]; exact hi
 have e : p.getD i 0 = p[i] := by simp [Array.getD, hs]
 rw [e];have hm : p[i] ∈ p := Array.getElem_mem hs;have := h.perm.mem_iff.mp hm
 simpa using this
theorem PB.rev {N : Nat} {p : Array Nat} (h : PB N p) (i j : Nat) : PB N (kas_rev p i j) := ⟨(mirror_perm p i j _).trans h.perm⟩
theorem PB.bub {N : Nat} {p : Array Nat} (h : PB N p) (i j : Nat) : PB N (bubble p i j) := ⟨(bubble_perm p i j).trans h.perm⟩
theorem gY {xs ys : Array Nat} {i j : Nat} (h : xs[i]? = ys[j]?) : xs.getD i 0 = ys.getD j 0 := by
 rw [Array.getD_eq_getD_getElem?, Array.getD_eq_getD_getElem?, h]
theorem vZ {N : Nat} {p : Array Nat} (h : PB N p) {i j : Nat} (hj : j <= N) (k : Nat) : (kas_rev p i j).getD k 0 = if i <= k /\ k < j then p.getD (i + j - 1 - k) 0 else p.getD k 0 := by
 have e := getElem?_mirror_all (xs := p) (i := i) (j := j) (by rw [h.size]; exact hj) k;unfold kas_rev;by_cases c : i <= k /\ k < j
 ·rw [if_pos c] at e ⊢; exact gY e
 ·rw [if_neg c] at e ⊢; exact gY e
theorem zwo {N : Nat} {p : Array Nat} (h : PB N p) {k l : Nat} (hk : k < N) (hl : l <= k) (i : Nat) :
  (bubble p k (k - l)).getD i 0 = if i = l then p.getD k 0 else if l < i /\ i <= k then p.getD (i - 1) 0 else p.getD i 0 := by
 have e := getElem?_bubble (xs := p) (src := k) (by rw [h.size]; exact hk) (k - l) (by lia) i;rw [show k - (k - l) = l by lia] at e;by_cases c : i = l
 ·rw [if_pos c] at e ⊢; exact gY e
 ·rw [if_neg c] at e ⊢;by_cases c2 : l < i /\ i <= k
  ·rw [if_pos c2] at e ⊢; exact gY e
  ·rw [if_neg c2] at e ⊢; exact gY e
section
variable {lt : Nat -> Nat -> Bool} {N : Nat}
def Up (lt : Nat -> Nat -> Bool) (p : Array Nat) (m : Nat) : Prop := ∀ i j, i <= j -> j < m -> lt (p.getD j 0) (p.getD i 0) = false
def zfw (lt : Nat -> Nat -> Bool) (p : Array Nat) (m : Nat) : Prop := ∀ i j, i <= j -> j < m -> lt (p.getD i 0) (p.getD j 0) = false
def zBg (lt : Nat -> Nat -> Bool) (p : Array Nat) (a b : Nat) : Prop := ∀ i j, a <= i -> i < b -> a <= j -> j < b -> lt (p.getD i 0) (p.getD j 0) = false
theorem zxi (o : Ord lt) {p : Array Nat} {n : Nat} (h : Up lt p n) (n1 : 1 <= n) (c : lt (p.getD n 0) (p.getD (n - 1) 0) = false) : Up lt p (n + 1) := by
 intro i j hij hj;by_cases e : j = n
 ·subst e;by_cases e2 : i = j
  ·subst e2; exact o.rf _
  ·exact o.tr _ _ _ (h i (j - 1) (by lia) (by lia)) c
 ·exact h i j hij (by lia)
theorem vX (o : Ord lt) {p : Array Nat} {n : Nat} (h : zfw lt p n) (n1 : 1 <= n) (c : lt (p.getD (n - 1) 0) (p.getD n 0) = false) : zfw lt p (n + 1) := by
 intro i j hij hj;by_cases e : j = n
 ·subst e;by_cases e2 : i = j
  ·subst e2; exact o.rf _
  ·exact o.tr _ _ _ c (h i (j - 1) (by lia) (by lia))
 ·exact h i j hij (by lia)
theorem zgs (o : Ord lt) {p : Array Nat} (B : PB N p) : ∀ (f n : Nat), 1 <= n -> n + f <= N -> Up lt p n -> ∃ m, Ran lt N (kas_asc p f n) m /\ n <= m /\ m <= n + f /\ Up lt p m /\ (m = n + f \/ (m < N /\ lt (p.getD m 0) (p.getD (m - 1) 0) = true))
 | 0, n, _, _, h => ⟨n, .ret n, Qw _, Qw _, h, .inl rfl⟩
 | f + 1, n, n1, hf, h => by
  have b1 := B.lt (i := n) (by lia);have b2 := B.lt (i := n - 1) (by lia);cases c : lt (p.getD n 0) (p.getD (n - 1) 0) with
  | true =>
   refine ⟨n, .ask b1 b2 ?_, Qw _, by lia, h, .inr ⟨by lia, c⟩⟩;rw [c];exact .ret n
  | false =>
   obtain ⟨m, r, m1, m2, u, z⟩ := zgs o B f (n + 1) (by lia) (by lia) (zxi o h n1 c);refine ⟨m, .ask b1 b2 ?_, by lia, by lia, u, ?_⟩
   ·rw [c]; exact r
   ·rcases z with z | z
    ·exact .inl (by lia)
    ·exact .inr z
theorem zfh (o : Ord lt) {p : Array Nat} (B : PB N p) {n q : Nat} (hn : n <= N) (hq : q + 1 <= n) (h : zfw lt p n) (fl : zBg lt p (n - (q + 1)) n) : zfw lt (kas_rev p (n - (q + 1)) n) n := by
 intro i j hij hj;rw [vZ B hn, vZ B hn];by_cases c1 : n - (q + 1) <= i /\ i < n
 ·rw [if_pos c1, if_pos (by lia)];exact fl _ _ (by lia) (by lia) (by lia) (by lia)
 ·rw [if_neg c1];by_cases c2 : n - (q + 1) <= j /\ j < n
  ·rw [if_pos c2];exact h _ _ (by lia) (by lia)
  ·rw [if_neg c2];exact h _ _ hij hj
theorem kU (o : Ord lt) : ∀ (f : Nat) (p : Array Nat) (n q : Nat), PB N p -> q + 1 <= n -> n + f <= N -> zfw lt p n -> zBg lt p (n - (q + 1)) n ->
  ∃ p' n' q', Ran lt N (kas_desc f p n q) (p', n', q') /\ PB N p' /\ n <= n' /\ n' <= n + f /\ q' + 1 <= n' /\ zfw lt p' n' /\ zBg lt p' (n' - (q' + 1)) n'
 | 0, p, n, q, B, hq, hf, h, fl => ⟨p, n, q, .ret _, B, Qw _, Qw _, hq, h, fl⟩
 | f + 1, p, n, q, B, hq, hf, h, fl => by
  have b1 := B.lt (i := n) (by lia);have b2 := B.lt (i := n - 1) (by lia);cases c : lt (p.getD n 0) (p.getD (n - 1) 0) with
  | true =>
   have c' := o.as _ _ c;by_cases q0 : q > 0
   ·have B1 := B.rev (n - (q + 1)) n;have d1 := zfh o B (by lia) hq h fl;have en : (kas_rev p (n - (q + 1)) n).getD n 0 = p.getD n 0 := by rw [vZ B (by lia), if_neg (by lia)]
    have el : (kas_rev p (n - (q + 1)) n).getD (n - 1) 0 = p.getD (n - (q + 1)) 0 := by
     rw [vZ B (by lia), if_pos (by lia)];congr 1;lia
    have d2 : zfw lt (kas_rev p (n - (q + 1)) n) (n + 1) := vX o d1 (by lia) (by
     rw [en, el];exact o.tr _ _ _ c' (h _ _ (by lia) (by lia)))
    obtain ⟨p', n', q', r, z1, z2, z3, z4, z5, z6⟩ := kU o f _ (n + 1) 0 B1 (by lia) (by lia) d2 (fun i j i1 i2 j1 j2 => by
     have : i = j := by lia
     subst this; exact o.rf _)
    refine ⟨p', n', q', .ask b1 b2 ?_, z1, by lia, by lia, z4, z5, z6⟩;rw [c];simp only [if_true, if_pos q0];exact r
   ·obtain ⟨p', n', q', r, z1, z2, z3, z4, z5, z6⟩ := kU o f p (n + 1) 0 B (by lia) (by lia) (vX o h (by lia) c') (fun i j i1 i2 j1 j2 => by
     have : i = j := by lia
     subst this; exact o.rf _)
    refine ⟨p', n', q', .ask b1 b2 ?_, z1, by lia, by lia, z4, z5, z6⟩;rw [c];simp only [if_true, if_neg q0];exact r
  | false =>
   cases c2 : lt (p.getD (n - 1) 0) (p.getD n 0) with
   | true =>
    refine ⟨p, n, q, .ask b1 b2 ?_, B, Qw _, by lia, hq, h, fl⟩;rw [c];simp only [Wy, if_false];refine .ask b2 b1 ?_;rw [c2];simp only [if_true];exact .ret _
   | false =>
    have fl2 : zBg lt p (n + 1 - (q + 1 + 1)) (n + 1) := by
     intro i j i1 i2 j1 j2;by_cases ei : i = n
     ·subst ei;by_cases ej : j = i
      ·subst ej; exact o.rf _
      ·exact o.tr _ _ _ (fl (i - 1) j (by lia) (by lia) (by lia) (by lia)) c
     ·by_cases ej : j = n
      ·subst ej;exact o.tr _ _ _ c2 (fl i (j - 1) (by lia) (by lia) (by lia) (by lia))
      ·exact fl i j (by lia) (by lia) (by lia) (by lia)
    obtain ⟨p', n', q', r, z1, z2, z3, z4, z5, z6⟩ := kU o f p (n + 1) (q + 1) B (by lia) (by lia) (vX o h (by lia) c2) fl2;refine ⟨p', n', q', .ask b1 b2 ?_, z1, by lia, by lia, z4, z5, z6⟩;rw [c];simp only [Wy, if_false];refine .ask b2 b1 ?_;rw [c2];simp only [Wy, if_false];exact r
theorem zBk {p : Array Nat} (B : PB N p) {n : Nat} (hn : n <= N) (h : zfw lt p n) : Up lt (kas_rev p 0 n) n := by
 intro i j hij hj;rw [vZ B hn, vZ B hn, if_pos (by lia), if_pos (by lia)];exact h _ _ (by lia) (by lia)
theorem zew (o : Ord lt) {p : Array Nat} (B : PB N p) {n : Nat} (n1 : 1 <= n) (hn : n <= N) (h : zfw lt p n) : ∃ m p', Ran lt N (kas_tail3 n N p) (m, p') /\ PB N p' /\ 1 <= m /\ m <= N /\ Up lt p' m := by
 obtain ⟨m, r, m1, m2, u, _⟩ := zgs o (B.rev 0 n) (N - n) n n1 (by lia) (zBk B hn h);exact ⟨m, _, r.bind (.ret _), B.rev 0 n, by lia, by lia, u⟩
theorem j8 (o : Ord lt) {p : Array Nat} (B : PB N p) {n : Nat} (hn : n + 1 <= N) (h : zfw lt p (n + 1)) : ∃ m p', Ran lt N (kas_descPart n N p) (m, p') /\ PB N p' /\ 1 <= m /\ m <= N /\ Up lt p' m := by
 obtain ⟨p', n', q', r, z1, z2, z3, z4, z5, z6⟩ := kU o (N - (n + 1)) p (n + 1) 0 B (by lia) (by lia) h (fun i j i1 i2 j1 j2 => by
  have : i = j := by lia
  subst this; exact o.rf _)
 by_cases q0 : q' > 0
 ·obtain ⟨m, p2, r2, y⟩ := zew o (z1.rev (n' - (q' + 1)) n') (n := n') (by lia) (by lia) (zfh o z1 (by lia) z4 z5 z6);exact ⟨m, p2, r.bind (by rw [if_pos q0]; exact r2), y⟩
 ·obtain ⟨m, p2, r2, y⟩ := zew o z1 (n := n') (by lia) (by lia) z5;exact ⟨m, p2, r.bind (by rw [if_neg q0]; exact r2), y⟩
theorem zqc (o : Ord lt) {p : Array Nat} (B : PB N p) (hN : 1 <= N) : ∃ m p', Ran lt N (kas_count N p) (m, p') /\ PB N p' /\ 1 <= m /\ m <= N /\ Up lt p' m := by
 obtain ⟨n, r, n1, n2, u, z⟩ := zgs o B (N - 1) 1 (Qw _) (by lia) (fun i j hij hj => by
  have : i = j := by lia
  subst this; exact o.rf _)
 by_cases e : n = N
 ·exact ⟨n, p, r.bind (by rw [if_pos (by simp [e])]; exact .ret _), B, n1, by lia, u⟩
 ·have zz : n < N /\ lt (p.getD n 0) (p.getD (n - 1) 0) = true := by
   rcases z with z | z
   ·lia
   ·exact z
  have c' := o.as _ _ zz.2;by_cases g : n > 1
  ·cases c : lt (p.getD 0 0) (p.getD (n - 1) 0) with
   | true =>
    refine ⟨n, p, r.bind ?_, B, n1, by lia, u⟩;rw [if_neg (by simp [e]), if_pos g];refine .ask (B.lt (by lia)) (B.lt (by lia)) ?_;rw [c];simp only [if_true];exact .ret _
   | false =>
    have alike : ∀ i j, i < n -> j < n -> lt (p.getD i 0) (p.getD j 0) = false := by
     intro i j hi hj;have a1 : lt (p.getD i 0) (p.getD 0 0) = false := u 0 i (by lia) hi;have a2 : lt (p.getD (n - 1) 0) (p.getD j 0) = false := u j (n - 1) (by lia) (by lia);exact o.tr _ _ _ a2 (o.tr _ _ _ c a1)
    have dn : zfw lt (kas_rev p 0 n) (n + 1) := by
     refine vX o (fun i j hij hj => ?_) n1 ?_
     ·rw [vZ B (by lia), vZ B (by lia), if_pos (by lia), if_pos (by lia)];exact alike _ _ (by lia) (by lia)
     ·rw [vZ B (by lia), vZ B (by lia), if_pos (by lia), if_neg (by lia)];exact o.tr _ _ _ c' (alike _ _ (by lia) (by lia))
    obtain ⟨m, p2, r2, y⟩ := j8 o (B.rev 0 n) (n := n) (by lia) dn;refine ⟨m, p2, r.bind ?_, y⟩;rw [if_neg (by simp [e]), if_pos g];refine .ask (B.lt (by lia)) (B.lt (by lia)) ?_;rw [c];simp only [Wy, if_false];exact r2
  ·obtain rfl : n = 1 := by lia
   have dn : zfw lt p (1 + 1) := vX o (fun i j hij hj => by
    have : i = j := by lia
    subst this; exact o.rf _) (Qw _) c'
   obtain ⟨m, p2, r2, y⟩ := j8 o B (n := 1) (by lia) dn;exact ⟨m, p2, r.bind (by rw [if_neg (by simp [e]), if_neg g]; exact r2), y⟩
theorem zae (o : Ord lt) {p : Array Nat} (B : PB N p) {k : Nat} (hk : k < N) (u : Up lt p k) : ∀ (f l r : Nat), l <= r -> r <= k -> r - l <= f -> (∀ i, i < l -> lt (p.getD k 0) (p.getD i 0) = false) -> (∀ i, r <= i -> i < k -> lt (p.getD i 0) (p.getD k 0) = false) ->
  ∃ m, Ran lt N (kas_place p k f l r) m /\ m <= k /\ (∀ i, i < m -> lt (p.getD k 0) (p.getD i 0) = false) /\ (∀ i, m <= i -> i < k -> lt (p.getD i 0) (p.getD k 0) = false)
 | 0, l, r, h1, h2, h3, a, b => ⟨l, .ret _, by lia, a, fun i i1 i2 => b i (by lia) i2⟩
 | f + 1, l, r, h1, h2, h3, a, b => by
  by_cases g : l >= r
  ·refine ⟨l, ?_, by lia, a, fun i i1 i2 => b i (by lia) i2⟩;unfold kas_place;rw [if_pos g];exact .ret _
  ·cases c : lt (p.getD k 0) (p.getD ((l + r) / 2) 0) with
   | true =>
    obtain ⟨m, rr, y⟩ := zae o B hk u f l ((l + r) / 2) (by lia) (by lia) (by lia) a (fun i i1 i2 => o.tr _ _ _ (o.as _ _ c) (u _ _ i1 i2));refine ⟨m, ?_, y⟩;unfold kas_place;rw [if_neg g];refine .ask (B.lt hk) (B.lt (by lia)) ?_;rw [c];simp only [if_true];exact rr
   | false =>
    obtain ⟨m, rr, y⟩ := zae o B hk u f ((l + r) / 2 + 1) r (by lia) (by lia) (by lia) (fun i i1 => o.tr _ _ _ (u i ((l + r) / 2) (by lia) (by lia)) c) b;refine ⟨m, ?_, y⟩;unfold kas_place;rw [if_neg g];refine .ask (B.lt hk) (B.lt (by lia)) ?_;rw [c];simp only [Wy, if_false];exact rr
theorem zob (o : Ord lt) : ∀ (f : Nat) (p : Array Nat) (k : Nat), PB N p -> k + f <= N -> Up lt p k -> ∃ p', Ran lt N (kas_bin f p k) p' /\ PB N p' /\ Up lt p' (k + f)
 | 0, p, k, B, _, u => ⟨p, .ret _, B, u⟩
 | f + 1, p, k, B, hf, u => by
  have hk : k < N := by lia
  obtain ⟨l, r, hl, a, b⟩ := zae o B hk u k 0 k (Jj _) (Qw _) (by lia) (fun i hi => absurd hi (by lia)) (fun i i1 i2 => absurd i2 (by lia));have u2 : Up lt (bubble p k (k - l)) (k + 1) := by
   intro i j hij hj;rw [zwo B hk hl, zwo B hk hl];by_cases ej : j = l
   ·rw [if_pos ej];by_cases ei : i = l
    ·rw [if_pos ei]; exact o.rf _
    ·rw [if_neg ei, if_neg (by lia)];exact a i (by lia)
   ·rw [if_neg ej];by_cases cj : l < j /\ j <= k
    ·rw [if_pos cj];by_cases ei : i = l
     ·rw [if_pos ei];exact b _ (by lia) (by lia)
     ·rw [if_neg ei];by_cases ci : l < i /\ i <= k
      ·rw [if_pos ci]; exact u _ _ (by lia) (by lia)
      ·rw [if_neg ci]; exact u _ _ (by lia) (by lia)
    ·rw [if_neg cj, if_neg (show ¬ i = l by lia), if_neg (by lia)];exact u _ _ hij (by lia)
  obtain ⟨p', r2, B2, u3⟩ := zob o f _ (k + 1) (B.bub k (k - l)) (by lia) u2;exact ⟨p', r.bind r2, B2, by rw [show k + (f + 1) = k + 1 + f by lia]; exact u3⟩
theorem zth (o : Ord lt) (hN : 1 <= N) : ∃ p, Ran lt N (kas_sort N) p /\ PB N p /\ Up lt p N := by
 obtain ⟨m, p, r, B, m1, m2, u⟩ := zqc o (p := (List.range N).toArray) ⟨Array.Perm.refl _⟩ hN;by_cases c : m < N
 ·obtain ⟨p2, r2, B2, u2⟩ := zob o (N - max m 1) p (max m 1) B (by lia) (by rw [Nat.max_eq_left m1]; exact u);refine ⟨p2, r.bind (by rw [if_pos c]; exact r2), B2, ?_⟩;rw [show max m 1 + (N - max m 1) = N by lia] at u2;exact u2
 ·obtain rfl : m = N := by lia
  exact ⟨p, r.bind (by rw [if_neg c]; exact .ret _), B, u⟩
end
end L2
namespace L2
open PySem PySem.W PyProof.Rows
section
variable {prog : Program} {w : World} {A : Around} {E : Value -> Shared -> Prop} {s : Shared}
def zEv (prog : Program) (w : World) (s : Shared) (lt : Nat -> Nat -> Bool) (vs : List Value) : Prop :=
 ∀ (A : Around) (h' : Heap), (∀ b u, s.heap.get? b = some u -> h'.get? b = some u) -> 2 <= vs.length -> ∃ κ : SortKind, (∀ (E : Value -> Shared -> Prop) (Q : SortKind -> Shared -> Prop), Q κ { s with heap := h' } -> wpAny (model prog w) A (keyKind' vs.toArray) Q E { s with heap := h' }) /\
  ∀ (i j : Nat) (C : Bool -> Shared -> Prop), i < vs.length -> j < vs.length -> C (lt i j) { s with heap := h' } -> wpAny (model prog w) A (keyLt' κ (vs.getD i Value.none) (vs.getD j Value.none)) C (fun _ _ => False) { s with heap := h' }
def jZ (vs : List Value) (p : Array Nat) : List Value := p.toList.map fun i => vs.getD i Value.none
theorem zjs {vs : List Value} (h : ¬ vs.length >= 2) : jZ vs (List.range vs.length).toArray = vs := by
 unfold jZ
 match vs with
 | [] => rfl
 | [v] => rfl
 | _ :: _ :: _ => simp at h
theorem zxh (vs : List Value) : (vs.toArray.zip vs.toArray).map (·.2) = vs.toArray := by
 apply Array.toList_inj.mp;rw [Array.toList_map, Array.toList_zip];exact List.map_snd_zip (Qw _)
theorem zpv {a : Addr} {vs : List Value} {n : Nat} {lt : Nat -> Nat -> Bool} {P : PySem.Fin -> Shared -> Prop} (ho : s.heap.get? a = some (seqObj "list" vs.toArray n)) (o : Ord lt) (h64 : vs.length < 64)
  (ask : 2 <= vs.length -> ∀ h', (∀ b u, b ≠ a -> s.heap.get? b = some u -> h'.get? b = some u) -> ∃ κ : SortKind, (∀ (E : Value -> Shared -> Prop) (Q : SortKind -> Shared -> Prop), Q κ { s with heap := h' } -> wpAny (model prog w) A (keyKind' vs.toArray) Q E { s with heap := h' }) /\
   ∀ (i j : Nat) (C : Bool -> Shared -> Prop), i < vs.length -> j < vs.length -> C (lt i j) { s with heap := h' } -> wpAny (model prog w) A (keyLt' κ (vs.getD i Value.none) (vs.getD j Value.none)) C (fun _ _ => False) { s with heap := h' })
  (q : ∀ p, PB vs.length p -> Up lt p vs.length -> P (.done (.ret .none)) { s with heap := sortedHeap s.heap a vs (jZ vs p).toArray }) : wpAny (model prog w) A (Builtin.«list.sort» ⟨[.ref a], []⟩) P E s := by
 rw [list_sort_plain];have la : a < s.heap.objs.size := Qt ho;have zs : vs.length <= sizeLine := by rw [sizeLine_eq]; lia
 refine Qq (listItems_at ho rfl (Qq (listUpdate_at ho rfl ?_ (by rw [Qh]; exact zs) (Jj _))));obtain ⟨e1, o1⟩ : ∃ e1, (s.heap.update a (Obj.mapSeq fun _ => (#[] : Array Value))).get? a = some (seqObj "list" #[] e1) := ⟨_, get?_update_seq ho fun _ => #[]⟩;refine Qq (seqEpoch_at o1 rfl (Qq (wpAny_newTuple (Qq (wpAny_newList (wpAny_holding ?_) (Jj _))) (by show vs.length <= _; exact zs))));have sb := Heap.SameBut.update s.heap a (Obj.mapSeq fun _ => (#[] : Array Value));have keep : ∀ b u, b ≠ a -> s.heap.get? b = some u -> (((s.heap.update a (Obj.mapSeq fun _ => #[])).push (seqObj "tuple" vs.toArray 0)).push (seqObj "list" #[] 0)).get? b = some u := fun b u hb z =>
  Qz _ (Qz _ ((sb.2 b hb).trans z))
 have o6 : (((s.heap.update a (Obj.mapSeq fun _ => #[])).push (seqObj "tuple" vs.toArray 0)).push (seqObj "list" #[] 0)).get? a = some (seqObj "list" #[] e1) := Qz _ (Qz _ o1);show wpAny (model prog w) A _ P E { s with heap := ((s.heap.update a (Obj.mapSeq fun _ => (#[] : Array Value))).push (seqObj "tuple" vs.toArray 0)).push (seqObj "list" #[] 0) };dsimp only;have fin : ∀ (st : SortSt) (out : List Value), (arrOf st).map (·.2) = out.toArray -> out.length = vs.length -> failedOf st = none -> P (.done (.ret .none)) { s with heap := sortedHeap s.heap a vs out.toArray } ->
   wpAny (model prog w) A (do
    let touched := (<- seqEpoch a) != e1
    Builtin.List.listUpdate (.ref a) fun _ => (arrOf st).map (·.2)
    if let some e := failedOf st then rule "list.sort.comparison-raised"; throw e
    if touched then rule "list.sort.modified"; raiseError "ValueError" "list modified during sort"
    ret .none) P E { s with heap := ((s.heap.update a (Obj.mapSeq fun _ => (#[] : Array Value))).push (seqObj "tuple" vs.toArray 0)).push (seqObj "list" #[] 0) } := by
  intro st out eo el ef qq;refine Qq (seqEpoch_at o6 rfl ?_);rw [eo];refine Qq (listUpdate_at o6 rfl ?_ (Jj _) (by show out.toArray.size <= _; rw [Qh, el, sizeLine_eq]; lia));rw [ef];simp only [bne_self_eq_false, Wy, if_false];exact Qv qq
 by_cases two : vs.length >= 2
 ·have hn2 : ¬ vs.toArray.size < 2 := by rw [Qh]; lia
  rw [if_neg hn2, if_neg hn2];obtain ⟨κ, kk, cc⟩ := ask two _ keep;obtain ⟨p, ran, pb, up⟩ := zth (N := vs.length) o (by lia);refine Qq (kk _ _ ?_);refine Qq (wpAny_mono (kat_run (E := E) (Q := fun st' s' => s' = { s with heap := ((s.heap.update a (Obj.mapSeq fun _ => (#[] : Array Value))).push (seqObj "tuple" vs.toArray 0)).push (seqObj "list" #[] 0) } /\ arrOf st' = p.map (kas_item (vs.toArray.zip vs.toArray)) /\ failedOf st' = none)
   (G := fun p' s' => p' = p /\ s' = { s with heap := ((s.heap.update a (Obj.mapSeq fun _ => (#[] : Array Value))).push (seqObj "tuple" vs.toArray 0)).push (seqObj "list" #[] 0) }) rfl two h64 (fun p' st' s' a1 a2 a3 a4 => ⟨a4.2, by rw [a2, a4.1], a3⟩) (ran.wp (fun i j C hi hj hC => cc i j C hi hj hC) ⟨rfl, rfl⟩)) ?_ fun _ _ x => x)
  rintro ⟨⟨⟩, st'⟩ s' ⟨rfl, ea, ef⟩;exact fin st' (jZ vs p) (kat_snds rfl ea) (by unfold jZ; rw [Qj, Array.length_toList, pb.size]) ef (q p pb up)
 ·have hn2 : vs.toArray.size < 2 := by rw [Qh]; lia
  rw [if_pos hn2, if_pos hn2];refine Qq (Qv ?_);rw [StateT.run_pure];refine Qq (Qv ?_);refine fin (SortSt.mk' general' (vs.toArray.zip vs.toArray) #[] 7 none) (jZ vs (List.range vs.length).toArray) ?_ (by rw [zjs two]) rfl (q _ ⟨Array.Perm.refl _⟩ ?_)
  ·rw [zjs two]; exact zxh vs
  ·intro i j hij hj;have : i = j := by lia
   subst this; exact o.rf _
theorem zbp {l : Addr} {vs : List Value} {lt : Nat -> Nat -> Bool} {Q : Value -> Shared -> Prop} (hl : s.heap.IsList l vs.toArray) (o : Ord lt) (h64 : vs.length < 64) (ask : zEv prog w s lt vs)
  (q : ∀ p, PB vs.length p -> Up lt p vs.length -> Q (.ref (s.heap.objs.size + 1)) { s with heap := sortedAll s.heap vs (jZ vs p).toArray }) : wpAny (model prog w) A (call (.builtin "sorted") [.ref l]) Q E s := by
 refine Calls.call_function_entry kind_sorted plain_sorted entry_sorted (args_sorted1 _) ?_;unfold Builtin.«sorted»;refine Qq (m := checkCount "sorted" 1 1 _) (Qv (Qq (collect_list hl (Qq (wpAny_newList ?_ (by rw [sizeLine_eq]; lia))) (by rw [sizeLine_eq]; lia))));have z1 : ((s.heap.push (seqObj "list" #[] 0)).update s.heap.objs.size (Obj.mapSeq (· ++ vs.toArray))).objs.size = s.heap.objs.size + 1 := by rw [Heap.size_update, size_push']
 have oL : (((s.heap.push (seqObj "list" #[] 0)).update s.heap.objs.size (Obj.mapSeq (· ++ vs.toArray))).push (seqObj "list" vs.toArray 0)).get? (s.heap.objs.size + 1) = some (seqObj "list" vs.toArray 0) := by
  rw [<- z1]; exact Qb _ rfl
 have keep : ∀ b u, s.heap.get? b = some u -> (((s.heap.push (seqObj "list" #[] 0)).update s.heap.objs.size (Obj.mapSeq (· ++ vs.toArray))).push (seqObj "list" vs.toArray 0)).get? b = some u := fun b u z => by
  have lb : b < s.heap.objs.size := Qt z;exact Qz _ (by rw [Heap.get?_update_ne _ _ _ _ (Q7 lb)]; exact Qz _ z)
 show wpAny _ _ _ _ _ { s with heap := ((s.heap.push (seqObj "list" #[] 0)).update s.heap.objs.size (Obj.mapSeq (· ++ vs.toArray))).push (seqObj "list" vs.toArray 0) };rw [z1];refine Qq (wpAny_holding (Jd slot_list_sort ⟨_, oL, rfl⟩ entry_list_sort (zpv oL o h64 (fun two h' k => ask _ h' (fun b u z => k b u (fun e => ?_) (keep b u z)) two) fun p pb up => ⟨_, rfl, ?_⟩) (args_list_sort _)))
 ·exact absurd (Qt z) (by rw [e]; exact Nat.not_lt.mpr (Ws _))
 ·exact Qv ⟨_, rfl, q p pb up⟩
end
end L2
namespace L2
open PySem PySem.W PyProof.Rows
theorem zwf : ∀ (a b : List Int), HT.lexLt a b = true -> HT.lexLt b a = false
 | [], [], h => by cases h
 | [], _ :: _, _ => rfl
 | _ :: _, [], h => by cases h
 | x :: xs, y :: ys, h => by
  rw [HT.lexLt_cons] at h ⊢;by_cases e : x = y
  ·rw [if_pos e] at h; rw [if_pos e.symm]; exact zwf xs ys h
  ·rw [if_neg e] at h; rw [if_neg (Ne.symm e)];have := Jf h;exact Q8 (by lia)
theorem zwe : ∀ (a b c : List Int), HT.lexLt b a = false -> HT.lexLt c b = false -> HT.lexLt c a = false
 | [], [], c, _, h => h
 | [], _ :: _, [], _, h => by cases h
 | [], _ :: _, _ :: _, _, _ => rfl
 | _ :: _, [], _, h, _ => by cases h
 | x :: xs, y :: ys, [], _, h => by cases h
 | x :: xs, y :: ys, z :: zs, h1, h2 => by
  rw [HT.lexLt_cons] at h1 h2 ⊢;by_cases e1 : y = x
  ·rw [if_pos e1] at h1;by_cases e2 : z = y
   ·rw [if_pos e2] at h2;rw [if_pos (e2.trans e1)];exact zwe xs ys zs h1 h2
   ·rw [if_neg e2] at h2;rw [if_neg (fun q => e2 (q.trans e1.symm))];have := Wj h2;exact Q8 (by lia)
  ·rw [if_neg e1] at h1;have g1 := Wj h1;by_cases e2 : z = y
   ·rw [if_neg (fun q => e1 (e2.symm.trans q))];exact Q8 (by lia)
   ·rw [if_neg e2] at h2;have g2 := Wj h2;rw [if_neg (by lia)];exact Q8 (by lia)
theorem zor (kss : List (List Int)) : Ord fun i j => HT.lexLt (kss.getD i []) (kss.getD j []) := ⟨fun _ _ h => zwf _ _ h, fun _ _ _ h1 h2 => zwe _ _ _ h1 h2⟩
def zsm (fin : Bool) : List Int -> List Int -> Bool
 | x :: xs, y :: ys => if x = y then zsm fin xs ys else decide (x < y)
 | _, _ => fin
theorem zos : ∀ (a b : List Int), zsm (decide (a.length < b.length)) a b = HT.lexLt a b
 | [], [] => rfl
 | [], _ :: _ => by show decide _ = true; simp
 | _ :: _, [] => by show decide _ = false; simp
 | x :: xs, y :: ys => by
  rw [HT.lexLt_cons];show (if x = y then zsm _ xs ys else decide (x < y)) = _;have : decide ((x :: xs).length < (y :: ys).length) = decide (xs.length < ys.length) := by simp
  rw [this, zos xs ys]
section
variable {prog : Program} {w : World} {A : Around} {E : Value -> Shared -> Prop} {s : Shared}
theorem zkv {fin : Bool} {Q : Bool -> Shared -> Prop} : ∀ {us : List Value} {ks : List Int} {ws : List Value} {ms : List Int} (i : Nat), IntsAre us ks -> IntsAre ws ms -> Q (zsm fin ks ms) s -> KatLex prog w A true fin Q (us.zip ws) i s
 | _, _, _, _, _, .nil, _, q => kat_nil q
 | _, _, _, _, _, .cons _ _ _, .nil, q => kat_nil q
 | _, _, _, _, i, .cons (vs := us) (ns := ks) x t h1, .cons (vs := ws) (ns := ms) y u h2, q => by
  refine kat_cons (wpAny_eqBool_int (kat_go (fun e => kat_yes (zkv (i + 1) h1 h2 ?_)) fun e => kat_no ?_))
  ·have : x = y := by simpa using e
   have z : zsm fin (x :: ks) (y :: ms) = zsm fin ks ms := by show (if x = y then _ else _) = _; rw [if_pos this]
   rw [z] at q; exact q
  ·have : ¬ x = y := by simpa using e
   have z : zsm fin (x :: ks) (y :: ms) = decide (x < y) := by show (if x = y then _ else _) = _; rw [if_neg this]
   rw [z] at q;cases h0 : (true && i == 0) with
   | true => exact oneLt_int q
   | false => exact kat_one _ _ (lt_int q)
def TupI (h : Heap) (v : Value) (ks : List Int) : Prop := ∃ a o xs n, v = .ref a /\ h.get? a = some o /\ o.cls = .type "tuple" /\ o.data = .seq xs n /\ IntsAre xs.toList ks
theorem TupI.kept {h h' : Heap} {v : Value} {ks : List Int} (x : TupI h v ks) (k : ∀ b u, h.get? b = some u -> h'.get? b = some u) : TupI h' v ks := let ⟨a, o, xs, n, e, g, r⟩ := x; ⟨a, o, xs, n, e, k _ _ g, r⟩
theorem zmg {us : List Value} {x : Int} {ks : List Int} (h : IntsAre us (x :: ks)) : ∃ t, us[0]? = some (.int x t) := by
 cases h with
 | cons _ t _ => exact ⟨t, rfl⟩
theorem zak {h : Heap} : ∀ {vs : List Value} {kss : List (List Int)}, Paired (TupI h) vs kss -> (∀ ks ∈ kss, ks ≠ []) -> ∃ fs, KatTups h vs fs /\ fs.length = vs.length /\ ∀ f ∈ fs, ∃ x t, f = .int x t
 | _, _, .nil, _ => ⟨[], .nil, rfl, fun f hf => nomatch hf⟩
 | _, _, .cons (b := ks) r t, hne => by
  obtain ⟨fs, k, l, a⟩ := zak t fun ks hk => hne ks (Qy _ hk);obtain ⟨ad, o, xs, n, rfl, g, hc, hd, hi⟩ := r;cases ks with
  | nil => exact absurd rfl (hne _ (Qk ..))
  | cons x ks =>
   obtain ⟨tk, e⟩ := zmg hi;refine ⟨.int x tk :: fs, .cons g hc hd (by rw [Array.getElem?_toList] at e; exact e) k, by simp [l], fun f hf => ?_⟩;rcases Qs.mp hf with rfl | hf
   ·exact ⟨x, tk, rfl⟩
   ·exact a f hf
theorem zft {vs : List Value} {kss : List (List Int)} (h : Paired (TupI s.heap) vs kss) (hne : ∀ ks ∈ kss, ks ≠ []) : zEv prog w s (fun i j => HT.lexLt (kss.getD i []) (kss.getD j [])) vs := by
 intro A h' keep two;have h2 : Paired (TupI h') vs kss := Paired.mapP h fun _ _ x => x.kept keep;refine ⟨tuples' true, fun E Q q => ?_, fun i j C hi hj q => ?_⟩
 ·obtain ⟨fs, k, l, a⟩ := zak h2 hne;have e : (Value.type "int" != Value.type "tuple") = true := by decide
  refine kat_kind (T := .type "int") k (by lia) (fun f hf => ?_) (by decide) (by rw [e]; exact q);obtain ⟨x, t, rfl⟩ := a f hf;exact .now
 ·have gi : ∀ i, i < vs.length -> ∃ v ks, vs.getD i Value.none = v /\ kss.getD i [] = ks /\ TupI h' v ks := fun i hi => by
   obtain ⟨ks, e, r⟩ := Paired.at h2 (i := i) (a := vs[i]) (by simp [hi]);exact ⟨vs[i], ks, by simp [hi], by rw [Qd, e]; rfl, r⟩
  obtain ⟨v, ks, ev, ek, a, o, xs, n, rfl, g, _, hd, hI⟩ := gi i hi;obtain ⟨u, ms, eu, em, b, o2, ys, n2, rfl, g2, _, hd2, hI2⟩ := gi j hj;rw [ev, eu];refine kat_lt (s := { s with heap := h' }) g hd g2 hd2 (zkv 0 hI hI2 ?_);have l1 : xs.size = ks.length := by have := hI.length; simpa using this
  have l2 : ys.size = ms.length := by have := hI2.length; simpa using this
  rw [l1, l2, zos];have q' : C (HT.lexLt (kss.getD i []) (kss.getD j [])) { s with heap := h' } := q;rw [ek, em] at q';exact q'
end
def vK (H : Hp) (v : V) (ks : List Int) : Prop := ∃ a, v = .ref a /\ H a = some (.tup (ks.map V.int))
def qN (a b : List Int) : Prop := HT.lexLt b a = false
section
variable {X : Cx}
def zti (K : PySem.W.Frag) : List V -> Hp -> VK -> Prop := fun xs H Q => ∃ (p : Addr) (rs : List V) (kss : List (List Int)), xs = [.ref p] /\ SqL K H p rs /\ rs.length < 64 /\ Paired (vK H) rs kss /\ (∀ ks ∈ kss, ks ≠ []) /\
 ∀ (l : Addr) (rs' : List V) (kss' : List (List Int)), Paired (vK H) rs' kss' -> kss'.Perm kss -> kss'.Pairwise qN -> H l = none -> Q (.ref l) (upd H l (.lst rs'))
theorem x6 {α β γ : Type} {F : α -> β -> Prop} {f : γ -> α} {g : γ -> β} : ∀ {l : List γ}, (∀ c ∈ l, F (f c) (g c)) -> Paired F (l.map f) (l.map g)
 | [], _ => .nil
 | c :: l, h => .cons (h c (Qk ..)) (x6 fun d hd => h d (Qy _ hd))
theorem wI {α : Type} (l : List α) (d : α) : (List.range l.length).map (fun i => l.getD i d) = l := by
 apply List.ext_getElem
 ·simp
 ·intro i h1 h2;simp at h1;simp [h1]
theorem PB.list {N : Nat} {p : Array Nat} (h : PB N p) : p.toList.Perm (List.range N) := by
 have := Array.perm_iff_toList_perm.mp h.perm
 simpa using this
theorem kE : xE X (.builtin "sorted") (zti X.K) := by
 intro pins s σ H xs us Q I r h;obtain ⟨p, rs, kss, rfl, hp, hn, hk, hne, q⟩ := h;obtain ⟨u, rfl, ru⟩ := Vals.one r;cases (show u = Value.ref p from ru)
 obtain ⟨its, r1, t1, _⟩ := I.list hp;have hl : its.length = rs.length := r1.length.symm;have kl : rs.length = kss.length := Paired.length hk;have tup : ∀ i, i < rs.length -> ∃ a ks, rs.getD i .non = .ref a /\ kss.getD i [] = ks /\ its.getD i Value.none = .ref a /\ H a = some (.tup (ks.map V.int)) := fun i hi => by
  obtain ⟨ks, e, a, ea, ha⟩ := Paired.at hk (i := i) (a := rs[i]) (by simp [hi]);obtain ⟨v, ev, rv⟩ := r1.get (i := i) (x := rs[i]) (by simp [hi]);rw [ea] at rv;refine ⟨a, ks, by simp [hi, ea], by rw [Qd, e]; rfl, ?_, ha⟩;rw [Qd, ev];exact rv
 have tups : Paired (TupI s.heap) its kss := by
  have e1 := wI its Value.none;have e2 := wI kss [];rw [hl] at e1;rw [<- kl] at e2;rw [<- e1, <- e2];refine x6 fun i hi => ?_;obtain ⟨a, ks, _, e4, e5, e6⟩ := tup i (Q0.mp hi);obtain ⟨_, us, ru, o, g, hc, n, hd⟩ := I.hok a _ e6;rw [e4, e5];exact ⟨a, o, us.toArray, n, rfl, g, hc, hd, by simpa using qB ru⟩
 refine zbp t1.isList (zor kss) (by lia) (zft tups hne) fun pm pb up => ?_;obtain ⟨e, he⟩ := sortedAll_at s.heap its (jZ its pm).toArray;have fr : s.heap.objs.size <= s.heap.objs.size + 1 := Ws _;have pl : ∀ i ∈ pm.toList, i < rs.length := fun i hi => by
  have := pb.list.mem_iff.mp hi;rw [Q0, hl] at this;exact this
 have ls : pm.toList.length = rs.length := by rw [Array.length_toList, pb.size, hl]
 refine ⟨.ref (s.heap.objs.size + 1), upd H (s.heap.objs.size + 1) (.lst (pm.toList.map fun i => rs.getD i .non)), I.laid (t' := s.toks) (fun b o z => sortedAll_old z) fr ?_, rfl,
  q _ _ (pm.toList.map fun i => kss.getD i []) (x6 fun i hi => ?_) ?_ ?_ (I.hok.fresh fr)⟩
 ·refine ⟨?_, jZ its pm, e, x6 fun i hi => ?_, he⟩
  ·rw [Qj, ls, sizeLine_eq]; lia
  ·obtain ⟨a, ks, e3, e4, e5, e6⟩ := tup i (pl i hi);rw [e3, e5];exact rfl
 ·obtain ⟨a, ks, e3, e4, e5, e6⟩ := tup i (pl i hi);rw [e3, e4];exact ⟨a, rfl, e6⟩
 ·have := pb.list.map fun i => kss.getD i [];rw [hl, kl, wI] at this;exact this
 ·rw [List.pairwise_iff_getElem];intro i j hi hj hij;rw [Qj] at hi hj;have := up i j (by lia) (by rw [hl]; lia);simp only [List.getElem_map, Array.getElem_toList];have gi : pm.getD i 0 = pm[i] := by simp [Array.getD, show i < pm.size by rw [<- Array.length_toList]; exact hi]
  have gj : pm.getD j 0 = pm[j] := by simp [Array.getD, show j < pm.size by rw [<- Array.length_toList]; exact hj]
  rw [gi, gj] at this;exact this
end
end L2
namespace L2
open PySem PySem.Spec PyProof.Rows
theorem vP {k : Kd} {K : PySem.W.Frag} {a : Addr} {xs : List V} {g : TG} {tb : TS} {D : zfv} {σ : St} {H : Hp} (Pv : Nat -> St -> Hp -> Prop) (h0 : Pv 0 σ H) (hl : ∀ i σ H, i <= xs.length -> Pv i σ H -> SqK k K H a xs)
  (hs : ∀ i x σ H, xs[i]? = some x -> Pv i σ H -> g x σ H fun σ2 H2 => tb { D with nx := Pv (i + 1), ct := Pv (i + 1), bk := D.nx } σ2 H2) (hd : ∀ σ H, Pv xs.length σ H -> D.nx σ H) :
  ∃ W : Nat -> Nat -> St -> Hp -> Prop, (∃ m, W 0 m σ H) /\ ∀ i m σ H, W i m σ H ->
   ((ItK k K a).stop i H /\ D.nx σ H) \/ ((ItK k K a).go i H /\ ∃ N : St -> Hp -> Prop, (∀ σ' H', N σ' H' -> ∃ m', m' < m /\ W (i + 1) m' σ' H') /\ ∀ x H', (ItK k K a).yld i H x H' -> g x σ H' fun σ2 H2 => tb { D with nx := N, ct := N, bk := D.nx } σ2 H2) := by
 cases k with
 | l => exact zlb Pv h0 hl hs hd
 | t => exact zzb Pv h0 hl hs hd
section
variable {X : Cx}
theorem zol : OpR X (binaryOp .Mult) (rI IntMulOk fun i j => .int (i * j)) := opI fun _ _ _ _ _ _ _ hc q => mul_int q hc
end
section
open PySem.SeqAt
open PySem.AutoSeq1 (wpAny_loadPart')
open PySem.MeetsSeq PySem.MeetsSeq2 PySem.MeetsSeq3
end
section
variable {X : Cx}
end
section
variable {prog : Program} {w : World} {A : Around} {E : Value -> Shared -> Prop} {s : Shared} {it l : Addr} {its : Array Value}
end
section
variable {X : Cx}
end
def cE (e : Int × Value) : Int × Value := (e.1, .int e.1 0)
def zwr (st : Array (Int × Value) × SetTable) (n : Int) : Array (Int × Value) × SetTable :=
 let L := layNew st.2 st.1 n (.int n 0)
 if (!L.2.2.1 && L.2.1.tooFull) = true then ((relayAll L.2.1 L.1 (SetTable.grown L.1.size)).1, (relayAll L.2.1 L.1 (SetTable.grown L.1.size)).2.1) else (L.1, L.2.1)
def jX (led : Bool) (ns : List Int) : Array (Int × Value) × SetTable := ns.foldl zwr (#[], SetTable.fresh 0 0 led)
theorem zfy {α β : Type} (f : α -> β) (xs : Array α) (p : Nat) (x : α) : (SetTable.insertAt xs p x).map f = SetTable.insertAt (xs.map f) p (f x) := by
 unfold SetTable.insertAt;simp [Array.map_append, Array.map_push, Array.map_extract]
theorem ztx (t : SetTable) (es : Array (Int × Value)) (h : Int) (x : Value) : layNew t (es.map cE) h (.int h 0) = ((layNew t es h x).1.map cE, (layNew t es h x).2) := by
 unfold layNew;cases t.freeSlot h with
 | none =>
  dsimp only;rw [Array.map_push, Array.size_map];rfl
 | some r =>
  obtain ⟨slot, wd⟩ := r;dsimp only;have e : SetTable.insertAt (es.map cE) (t.put slot).2 (h, Value.int h 0) = (SetTable.insertAt es (t.put slot).2 (h, x)).map cE := by rw [zfy]; rfl
  rw [e, Array.size_map]
theorem zly (t : SetTable) (es : Array (Int × Value)) (wd : Nat) : relayAll t (es.map cE) wd = ((relayAll t es wd).1.map cE, (relayAll t es wd).2) := by
 unfold relayAll;have e1 : (es.map cE).map (·.1) = es.map (·.1) := by rw [Array.map_map]; rfl
 rw [e1];cases t.relaid (es.map (·.1)) wd with
 | none => dsimp only; rw [Array.size_map]
 | some r =>
  obtain ⟨t', order⟩ := r;dsimp only;have e2 : order.filterMap ((es.map cE)[·]?) = (order.filterMap (es[·]?)).map cE := by
   rw [Array.map_filterMap];congr 1
   funext i
   rw [Array.getElem?_map]
  rw [e2, Array.size_map, Array.size_map];split <;> rfl
theorem zcj {n : Int} (h0 : 0 <= n) (h8 : n <= 8) : hashInt n = n := by
 rcases (show n = 0 \/ n = 1 \/ n = 2 \/ n = 3 \/ n = 4 \/ n = 5 \/ n = 6 \/ n = 7 \/ n = 8 by omega) with rfl | rfl | rfl | rfl | rfl | rfl | rfl | rfl | rfl <;> decide +kernel
def TabS (h : Heap) (a : Addr) (led : Bool) (ns : List Int) : Prop :=
 ∃ o es ep t, h.get? a = some o /\ o.ExactSet /\ o.data = .set es ep t /\ es.map cE = (jX led ns).1 /\ t = (jX led ns).2 /\ (∀ e ∈ es.toList, (∃ tk, e.2 = .int e.1 tk) /\ 0 <= e.1 /\ e.1 <= 8) /\ (es.toList.map (·.1)).Perm ns /\ t.fits es.size = true /\ es.size < 100
theorem TabS.at {h h' : Heap} {a : Addr} {led : Bool} {ns : List Int} (x : TabS h a led ns) (k : ∀ o, h.get? a = some o -> h'.get? a = some o) : TabS h' a led ns := let ⟨o, es, ep, t, g, r⟩ := x; ⟨o, es, ep, t, k _ g, r⟩
theorem TabS.fresh {h : Heap} {a : Addr} {led : Bool} (hg : h.get? a = some { cls := .type "set", dict := none, data := .set #[] 0 (.fresh 0 0 led) }) : TabS h a led [] :=
 ⟨_, #[], 0, .fresh 0 0 led, hg, ⟨rfl, rfl, rfl⟩, rfl, by simp [jX], rfl, (fun e he => by simp at he), .nil, by cases led <;> decide, by decide⟩
theorem kM (led : Bool) (ns : List Int) (n : Int) : jX led (ns ++ [n]) = zwr (jX led ns) n := by unfold jX; rw [List.foldl_append]; rfl
section
variable {prog : Program} {w : World} {A : Around} {E : Value -> Shared -> Prop} {s : Shared} {a : Addr} {led : Bool} {ns : List Int}
theorem zqx {es : Array (Int × Value)} (h : ∀ e ∈ es.toList, (∃ tk, e.2 = .int e.1 tk) /\ 0 <= e.1 /\ e.1 <= 8) : ElemsOf (intKind prog w) es.toList := by
 intro e he;obtain ⟨⟨tk, e2⟩, b1, b2⟩ := h e he;refine ⟨⟨e.1, ?_, ?_⟩, ?_⟩
 ·rw [e2]; exact intKind_is _ _ _ _
 ·exact (zcj b1 b2).symm
 ·rw [e2]; rfl
theorem zuh {es : Array (Int × Value)} (h : ∀ e ∈ es.toList, (∃ tk, e.2 = .int e.1 tk) /\ 0 <= e.1 /\ e.1 <= 8) (k : Int) : (es.toList.findIdx? fun e => (intKind prog w).is k e.2).isSome = decide (k ∈ es.toList.map (·.1)) := by
 rw [List.findIdx?_isSome];have : ∀ e ∈ es.toList, (intKind prog w).is k e.2 = decide (e.1 = k) := fun e he => by
  obtain ⟨⟨tk, e2⟩, _⟩ := h e he;rw [e2, KeyKind.is_eq_decide (intKind_is prog w e.1 tk) k];exact decide_eq_decide.mpr eq_comm
 rw [Jp, Ju, decide_eq_true_eq, Ql];constructor
 ·rintro ⟨e, he, q⟩;rw [this e he] at q;exact ⟨e, he, Jf q⟩
 ·rintro ⟨e, he, q⟩;exact ⟨e, he, by rw [this e he]; exact Q2 q⟩
theorem zAc {k : Int} {tk : Tok} {Q : Bool -> Shared -> Prop} (hS : TabS s.heap a led ns) (k0 : 0 <= k) (k8 : k <= 8) (room : ns.length < 90)
  (q : ∀ b h', Heap.SameBut a s.heap h' -> TabS h' a led (step_dedup ns k) -> Q b { s with heap := h' }) : wpAny (model prog w) A (setAddHashed a (.int k tk) (hashInt k)) Q E s := by
 obtain ⟨o, es, ep, t, ho, hex, hd, ec, et, hel, pm, hf, hz⟩ := hS;have el := zqx (prog := prog) (w := w) hel;have zl : es.size = ns.length := by have := pm.length_eq; simpa using this
 have hb : es.size < scanBound := by unfold scanBound; omega
 unfold setAddHashed setAddHashedIn;refine wpAny_holding (Qq (wpAny_setState_of ho hd hf ?_));dsimp only;rw [byScan_of (knd := intKind prog w) (x := .int k tk) rfl hb el];simp only [↓reduceIte];unfold setAddByScan;refine Qq (Qq (wpAny_rule (Qq (wpAny_setScan_of (knd := intKind prog w) (intKind_is prog w k tk) ho hd hf el ?_))));have fd := zuh (prog := prog) (w := w) hel k;cases hr : List.findIdx? (fun e => (intKind prog w).is k e.2) es.toList with
 | some j =>
  dsimp only;rw [hr, Option.isSome_some] at fd;have km : k ∈ ns := pm.mem_iff.mp (Jf fd.symm);have sd : step_dedup ns k = ns := by unfold step_dedup; rw [if_pos (Ju.mpr ⟨k, km, by simp⟩)]
  refine Qv (Qv ?_);have := q false s.heap (Heap.SameBut.refl a s.heap) (by rw [sd]; exact ⟨o, es, ep, t, ho, hex, hd, ec, et, hel, pm, hf, hz⟩);exact this
 | none =>
  dsimp only;rw [hr, Option.isSome_none] at fd;have km : k ∉ ns := fun z => Wj fd.symm (pm.mem_iff.mpr z);have sd : step_dedup ns k = ns ++ [k] := by
   unfold step_dedup;rw [if_neg (fun z => ?_)];obtain ⟨x, hx, e⟩ := Ju.mp z;have : x = k := by simpa using e
   exact km (by rw [<- this]; exact hx)
  have hk := zcj k0 k8;have lc := ztx t es k (.int k tk);have lp := layNew_perm t es k (.int k tk);have lf := layNew_fits t es k (.int k tk);have ta : zwr (jX led ns) k = zwr (es.map cE, t) k := by rw [ec, et]
  show wpAny _ _ (match layNew t es (hashInt k) (.int k tk) with | (es, t, wasDummy, gave) => _) _ _ s
  rw [hk];generalize hL : layNew t es k (.int k tk) = L at lc lp lf ⊢;obtain ⟨es1, t1, wd, gave⟩ := L;dsimp only at lc lp lf ⊢;rw [Array.toList_push] at lp;have hel1 : ∀ e ∈ es1.toList, (∃ tk, e.2 = .int e.1 tk) /\ 0 <= e.1 /\ e.1 <= 8 := fun e he => by
   rcases Qr.mp (lp.mem_iff.mp he) with he | he
   ·exact hel e he
   ·rw [Qx.mp he]; exact ⟨⟨tk, rfl⟩, k0, k8⟩
  have pm1 : (es1.toList.map (·.1)).Perm (ns ++ [k]) := by
   have := lp.map (·.1);rw [Qu] at this;exact this.trans (pm.append (List.Perm.refl _))
  have z1 : es1.size = ns.length + 1 := by have := pm1.length_eq; simpa using this
  have ad : zwr (es.map cE, t) k = if (!wd && t1.tooFull) = true then (((relayAll t1 es1 (SetTable.grown es1.size)).1.map cE), (relayAll t1 es1 (SetTable.grown es1.size)).2.1) else (es1.map cE, t1) := by
   unfold zwr;dsimp only;rw [lc];dsimp only;rw [Array.size_map, zly]
  have gw : ∀ (b : Bool) {s₁ : Shared} {Q' : Unit -> Shared -> Prop}, Q' () s₁ -> wpAny (model prog w) A (match b with | true => rule "set.scan.the-table-gave-way" | false => pure ()) Q' E s₁ :=
   fun b s₁ Q' hq => by cases b <;> first | exact Qv hq | exact wpAny_rule hq
  refine Qq (gw _ ?_);have hbv : hashByValue 8 (.int k tk) = pure true := hashByValue_scannable 8 rfl;have tail : wpAny (model prog w) A (do
    storeSet a es1 t1
    if (!wd && t1.tooFull) = true then do
      (match (relayAll t1 es1 (SetTable.grown es1.size)).2.2 with | true => rule "set.scan.the-table-gave-way" | false => pure ())
      storeSet a (relayAll t1 es1 (SetTable.grown es1.size)).1 (relayAll t1 es1 (SetTable.grown es1.size)).2.1
      pure (some true)
     else pure (some true)) (fun r s' => ∃ h', s' = { s with heap := h' } /\ r = some true /\ Heap.SameBut a s.heap h' /\ TabS h' a led (ns ++ [k])) E s := by
   refine Qq (wpAny_storeSet_of ho hd ?_ (by rw [sizeLine_eq]; omega));have g1 : (s.heap.update a (Obj.putSet es1 t1)).get? a = some { o with data := .set es1 (ep + 1) t1 } := by
    have := Wt (Obj.putSet es1 t1) ho (by rw [putSet_of es1 t1 hd]; rfl);rw [putSet_of es1 t1 hd] at this; exact this
   have sb1 := Heap.SameBut.update s.heap a (Obj.putSet es1 t1);by_cases c : (!wd && t1.tooFull) = true
   ·rw [if_pos c] at ad ⊢;have rp := relayAll_perm t1 es1 (SetTable.grown es1.size);have rf := relayAll_fits t1 es1 (SetTable.grown es1.size);generalize hR : relayAll t1 es1 (SetTable.grown es1.size) = R at rp rf ad ⊢;obtain ⟨es2, t2, g2⟩ := R;dsimp only at rp rf ad ⊢;have z2 : es2.size = ns.length + 1 := by rw [<- Array.length_toList, rp.length_eq, Array.length_toList, z1]
    refine Qq (gw _ (Qq (wpAny_storeSet_of g1 rfl ?_ (by rw [sizeLine_eq]; omega))));have g3 : ((s.heap.update a (Obj.putSet es1 t1)).update a (Obj.putSet es2 t2)).get? a = some { o with data := .set es2 (ep + 1 + 1) t2 } := by
     have := Wt (Obj.putSet es2 t2) g1 (by rw [putSet_of es2 t2 rfl]; rfl);rw [putSet_of es2 t2 rfl] at this; exact this
    refine Qv ⟨_, rfl, rfl, sb1.trans (Heap.SameBut.update _ a _), _, es2, ep + 1 + 1, t2, g3, hex, rfl, ?_, ?_, fun e he => hel1 e (rp.mem_iff.mp he), (rp.map (·.1)).trans pm1, rf, by omega⟩
    ·rw [kM, ta, ad]
    ·rw [kM, ta, ad]
   ·rw [if_neg c] at ad ⊢;refine Qv ⟨_, rfl, rfl, sb1, _, es1, ep + 1, t1, g1, hex, rfl, ?_, ?_, hel1, pm1, lf, by omega⟩
    ·rw [kM, ta, ad]
    ·rw [kM, ta, ad]
  by_cases pl : t1.plain = true
  ·rw [if_pos pl, hbv, pure_bind];simp only [if_true];refine wpAny_mono tail (fun r s' hr => ?_) fun _ _ x => x;obtain ⟨h', rfl, rfl, sb, tb⟩ := hr;exact Qv (q true h' sb (by rw [sd]; exact tb))
  ·rw [if_neg pl, pure_bind];simp only [if_true];refine wpAny_mono tail (fun r s' hr => ?_) fun _ _ x => x;obtain ⟨h', rfl, rfl, sb, tb⟩ := hr;exact Qv (q true h' sb (by rw [sd]; exact tb))
end
section
variable {prog : Program} {w : World} {A : Around} {R : Result -> Shared -> Prop} {I : Addr} {fp wr : List Addr} {G : Array GenState -> Array GenState -> Prop} {n : Nat} {P : Nat -> Value -> Prop} {St : Nat -> Shared -> Prop}
theorem zsz (Wk : WalksS prog w A.in1 I fp wr G n P St) (S : Addr) (nS : S ∉ fp) (led : Bool) (val : Nat -> Int) (hval : ∀ i v, P i v -> ∃ t, v = .int (val i) t) (small : ∀ i, i < n -> 0 <= val i /\ val i <= 8) (few : n < 80) :
  ∀ (k i : Nat) (s : Shared), n - i = k -> i <= n -> St i s -> TabS s.heap S led (firstMet val i) -> (∀ s', Moved (S :: wr) G s s' -> TabS s'.heap S led (firstMet val n) -> R (.ok (.ret .none)) s') ->
   codeAny (model prog w) A (.builtin "set.update.loop" ⟨[.ref S, .ref I], []⟩) R s := by
 have nw : S ∉ wr := fun z => nS (Wk.sub _ z);have up : ∀ b ∈ wr, b ∈ S :: wr := fun b hb => Qy _ hb;intro k
 induction k with
 | zero =>
  intro i s ek hi st tb q;obtain rfl : i = n := by omega
  refine codeAny_builtin PyProof.Rows.F.entry_set_update_loop ?_;rw [Around.under_plainId PyProof.Rows.F.plain_set_update_loop _];show wpAny _ A.in1 (pyNext (.ref I) >>= _) _ _ s;refine Qq (Wk.done s _ _ st fun s' mv => ?_);show wpAny _ A.in1 (ret Value.none) _ _ s';exact Qv (q s' (mv.mono up) (tb.at fun o e => mv.heap S _ nw e))
 | succ k ih =>
  intro i s ek hi st tb q;have lt : i < n := by omega
  refine codeAny_builtin PyProof.Rows.F.entry_set_update_loop ?_;rw [Around.under_plainId PyProof.Rows.F.plain_set_update_loop _];show wpAny _ A.in1 (pyNext (.ref I) >>= _) _ _ s;refine Qq (Wk.item i s _ _ lt st fun v s' hP st' mv => ?_);obtain ⟨t, rfl⟩ := hval i v hP;have tb' : TabS s'.heap S led (firstMet val i) := tb.at fun o e => mv.heap S _ nw e;show wpAny _ A.in1 (holding [Value.int (val i) t] (setAdd S (.int (val i) t)) >>= _) _ _ s';refine Qq (wpAny_holding ?_);unfold setAdd;refine wpAny_holding (Qq ((intKind prog w).pyHash (k := val i) (intKind_is _ _ _ _) ?_));refine zAc (s := { s' with toks := s'.toks + 1 }) tb' (small i lt).1 (small i lt).2 (by have := firstMet_length_le val i; omega) fun b h' sb tb2 => ?_;rw [<- firstMet_succ] at tb2;refine Qv ⟨plainId_quiet PyProof.Rows.F.plain_set_update_loop _, ih (i + 1) _ (by omega) lt (Wk.frame _ s' _ _ st' (Ws _) fun b hb o e => ?_) tb2 fun s2 mv2 tb3 => ?_⟩
  ·rw [sb.2 b (fun z : b = S => nS (by rw [<- z]; exact hb))]; exact e
  ·refine q s2 (Moved.trans Wk.gtrans ((mv.mono up).then_heap (Ws _) fun b o hb e => ?_) mv2) tb3;rw [sb.2 b (fun z : b = S => hb (by rw [z]; exact Qk))]; exact e
end
section
variable {prog : Program} {w : World} {A : Around} {E : Value -> Shared -> Prop} {s : Shared}
theorem zga (a : Value) {Q₁ : Value -> Shared -> Prop}
  (h : Q₁ (.ref s.heap.objs.size) { s with heap := s.heap.push { cls := .type "set", dict := none, data := .set #[] 0 (.fresh 0 0 (!w.params.followText "set-order")) } }) :
  codeAny (model prog w) A (.call (.builtin "set.__new__") ⟨[.type "set", a], []⟩) (wants Q₁ E) s := by
 refine codeAny_of_tree (show wpAny _ A.in1 (do checkBuiltinCall "set.__new__" ⟨[.type "set", a], []⟩; again (.builtin "set.__new__" ⟨[.type "set", a], []⟩)) _ _ s from ?_);refine Qq (wpAny_of_eq (F.newCall_set_1 a) (Qv ⟨plainId_quiet F.plain_set_new _, codeAny_builtin F.entry_set_new ?_⟩));rw [Around.under_plainId F.plain_set_new _];unfold Builtin.«set.__new__» Builtin.Frozenset.newClass;have f1 := sub_set_self;obtain ⟨hp, g, d, tk, os⟩ := s;dsimp only
 wp_walk
 refine wpAny_askSetting (Qv ?_);dsimp only;simp only [newObj];exact Qq (wpAny_alloc (Qv (Qv h)))
set_option maxHeartbeats 8000000 in
theorem zdy {l : Addr} {its : Array Value} {ns : List Int} {Q : Value -> Shared -> Prop} (hh : A.handled = none) (hl : s.heap.IsList l its) (hi : PyProof.Rows.IntsAre its.toList ns) (few : its.size < 80) (small : ∀ n ∈ ns, 0 <= n /\ n <= 8)
  (q : ∀ (h' : Heap) (tk : Nat), TabS h' s.heap.objs.size (!w.params.followText "set-order") (firstMet (fun i => ns.getD i 0) its.size) -> (∀ b o, b < s.heap.objs.size -> s.heap.get? b = some o -> h'.get? b = some o) -> Q (.ref s.heap.objs.size) { s with heap := h', toks := tk }) :
  wpAny (model prog w) A (call (.type "set") [.ref l]) Q E s := by
 obtain ⟨mc, mt, hmro⟩ := F.called_set.mro;have f1 := F.called_set.made;have f2 := F.called_set.sub;have f3 := F.called_set.notType;have f4 := F.called_set.canCreate;have f5 := F.typeCall_set_1 (.ref l);refine wpAny_call (codeAny_of_tree (show wpAny _ _ (callAny (.type "set") _) _ _ _ from Qv ⟨Code.quiet_builtin _ (by decide +kernel), codeAny_builtin F.entry_type_call ?_⟩));rw [Around.under_plain (weight_type_call_type "set" [.ref l] []) rfl];repeat (any_goals (first | assumption | wp_step))
 generalize hled : (!w.params.followText "set-order") = led at q;have nw : codeAny (model prog w) A.in1 (.call (.builtin "set.__new__") ⟨[.type "set", .ref l], []⟩) (wants (fun obj s₁ => obj = .ref s.heap.objs.size /\ s₁ = { s with heap := s.heap.push { cls := .type "set", dict := none, data := .set #[] 0 (.fresh 0 0 led) } }) E) s := zga (.ref l) (by rw [hled]; exact ⟨rfl, rfl⟩);refine codeAny_mono nw fun r s₁ hr => ?_;cases r with
 | error e => exact hr
 | ok fl =>
  cases fl with
  | ret obj =>
   obtain ⟨rfl, rfl⟩ := hr;have gS : (s.heap.push { cls := .type "set", dict := none, data := .set #[] 0 (.fresh 0 0 led) }).get? s.heap.objs.size = some { cls := .type "set", dict := none, data := .set #[] 0 (.fresh 0 0 led) } := Qb _ rfl;have ty : Shared.TypeIs { s with heap := s.heap.push { cls := .type "set", dict := none, data := .set #[] 0 (.fresh 0 0 led) } } (.ref s.heap.objs.size) "set" := ⟨_, gS, rfl⟩;have f6 := F.called_set.init.lookup;have f7 := F.called_set.init.bind (.ref s.heap.objs.size);repeat (any_goals (first | assumption | wp_step))
   refine codeAny_mono (codeAny_call_builtin (R := wants (fun r s₂ => r = .none /\ ∃ h' tk, s₂ = { s with heap := h', toks := tk } /\ TabS h' s.heap.objs.size led (firstMet (fun i => ns.getD i 0) its.size) /\ (∀ b o, b < s.heap.objs.size -> s.heap.get? b = some o -> h'.get? b = some o)) E) F.called_set.init.plain F.entry_set_init (check_set_init_1 ty ?_)) fun r2 s2 hr2 => ?_
   ·obtain ⟨⟨oc, od, odt, osl⟩, gl, c1, nl, c2⟩ := id hl;simp only at c1 c2;subst c1;subst c2;have gl' : (s.heap.push { cls := .type "set", dict := none, data := .set #[] 0 (.fresh 0 0 led) }).get? l = some { cls := .type "list", dict := od, data := .seq its nl, slots := osl } := Qz _ gl;have g1 := F.sub_list_set;have g2 := F.sub_list_frozenset;have g3 : (Value.type "list" == Value.type "dict") = false := by decide
    have hl1 : (s.heap.push { cls := .type "set", dict := none, data := .set #[] 0 (.fresh 0 0 led) }).IsList l its := ⟨_, gl', rfl, nl, rfl⟩;unfold Builtin.«set.__init__» noKeywords Builtin.Frozenset.updateFrom;generalize hPI : pyIter = PI
    wp_walk
    subst hPI;refine wpAny_pyIter_list hl1 (Qq (wpAny_runValue ?_));have ll : l < s.heap.objs.size := Qt gl;have sz1 : (s.heap.push { cls := .type "set", dict := none, data := .set #[] 0 (.fresh 0 0 led) }).objs.size = s.heap.objs.size + 1 := Heap.size_push ..;have hh3 : A.in1.in1.in1.handled = none := by simp [hh]
    have n1 : l ≠ (s.heap.push { cls := .type "set", dict := none, data := .set #[] 0 (.fresh 0 0 led) }).objs.size := by rw [sz1]; exact Q7 (Nat.lt_succ_of_lt ll)
    have n2 : s.heap.objs.size ∉ [(s.heap.push { cls := .type "set", dict := none, data := .set #[] 0 (.fresh 0 0 led) }).objs.size, l] := by
     rw [sz1];intro z;rcases Qs.mp z with z | z
     ·exact Q7 (Nat.lt_succ_self _) z
     ·exact Nat.ne_of_gt ll (Qx.mp z)
    have nl2 : its.size = ns.length := by have := hi.length; simpa using this
    refine zsz ((Walks.list hh3 _ l n1 its).toS) s.heap.objs.size n2 led (fun i => ns.getD i 0) (fun i v hv => PyProof.Rows.IntsAre.int_at hi i v (by rw [Array.getElem?_toList]; exact hv)) (fun i hi' => small _ (by
      have : i < ns.length := by omega
      rw [Qd, Q9 this];exact Wc this)) few (its.size - 0) 0 _ (by omega) (Jj _) ⟨⟨_, Qb _ rfl, rfl, rfl⟩, (hl1.push _)⟩ (TabS.fresh (Qz _ gS)) ?_
    intro s' mv tb;obtain ⟨h', g', d', tk', os'⟩ := s';have e1 : g' = s.gens := mv.gens;have e2 : d' = s.drawn := mv.drawn;have e3 : os' = s.os := mv.os;subst e1 e2 e3;refine Qv (show wpAny _ _ (ret Value.none) _ _ _ from Qv ⟨rfl, h', tk', rfl, tb, fun b o hb e => ?_⟩);refine mv.heap b o (fun z => ?_) (Qz _ (Qz _ e));rcases Qs.mp z with z | z
    ·exact Q7 hb z
    ·rw [Qx.mp z, sz1] at hb;exact absurd hb (Nat.not_lt.mpr (Ws _))
   ·cases r2 with
    | error e => exact hr2
    | ok fl2 =>
     cases fl2 with
     | ret r =>
      obtain ⟨rfl, h', tk, rfl, tb, kk⟩ := hr2;repeat (any_goals (first | assumption | wp_step))
      exact q _ _ tb kk
     | next => exact hr2
     | brk => exact hr2
     | cont => exact hr2
  | next => exact hr
  | brk => exact hr
  | cont => exact hr
end
theorem zbj : entryFor table "set.__iter__" = some Builtin.«frozenset.__iter__» :=
 entryFor_alias (id' := "frozenset.__iter__") (by kernel_rfl) (by first | rfl | decide +kernel) (by decide +kernel) (by kernel_rfl)
theorem slot_si_next : Slot "set_iterator" "__next__" "set_iterator.__next__" :=
 .of (owner := "set_iterator") (n := "__next__") (by rw [typeLookup_type, builtinLookup_eq_fast]; kernel_rfl) (by decide +kernel) (by decide +kernel) (by decide +kernel) (by first | exact .inl (by decide +kernel) | exact .inr (by decide +kernel)) (by rw [isSubtype_type]; kernel_rfl)
theorem jR : entryFor table "set_iterator.__next__" = some Builtin.«set_iterator.__next__» := entryFor_of_tree (by kernel_rfl)
theorem kF (a : Value) : argsOk "set_iterator.__next__" ⟨[a], []⟩ := by unfold argsOk; kernel_rfl
theorem j7 : Slot "set_iterator" "__iter__" "set_iterator.__iter__" :=
 .of (owner := "set_iterator") (n := "__iter__") (by rw [typeLookup_type, builtinLookup_eq_fast]; kernel_rfl) (by decide +kernel) (by decide +kernel) (by decide +kernel) (by first | exact .inl (by decide +kernel) | exact .inr (by decide +kernel)) (by rw [isSubtype_type]; kernel_rfl)
theorem zgg (a : Value) : argsOk "set_iterator.__iter__" ⟨[a], []⟩ := by unfold argsOk; kernel_rfl
theorem zdu : entryFor table "set_iterator.__iter__" = some Builtin.«dict_keyiterator.__iter__» :=
 entryFor_alias (id' := "dict_keyiterator.__iter__") (by kernel_rfl) (by first | rfl | decide +kernel | (unfold String.splitOn; simp +decide [String.splitOnAux])) (by decide +kernel) (by kernel_rfl)
abbrev qK (slot i : Int) (a : Addr) (n ep : Nat) : Obj := { cls := .type "set_iterator", data := .fields #[rawInt slot, rawInt i, .ref a, rawInt n, rawInt ep] }
def vD (t : SetTable) (i : Nat) : Nat := if i = 0 then 0 else t.place.getD (i - 1) 0 + 1
def x4 (t : SetTable) (n : Nat) : Bool := t.plain && t.led && (t.place.size == n) && (List.range (n + 1)).all fun i => SetTable.below t.place (vD t i) == i
section
variable {prog : Program} {w : World} {A : Around} {E : Value -> Shared -> Prop} {s : Shared} {it a : Addr} {o : Obj} {es : Array (Int × Value)} {ep i : Nat} {t : SetTable} {slot : Nat}
theorem zhb {Q : Bool -> Shared -> Prop} (h : Q (w.params.followText "set-order") s) : wpAny (model prog w) A setsByText Q E s := by
 unfold setsByText;exact Qq (wpAny_askSetting (Qv h))
theorem zul {Q : Bool -> Shared -> Prop} (ho : s.heap.get? a = some o) (hd : o.data = .set es ep t) (hf : t.fits es.size = true) (g : w.params.followText "set-order" = false -> x4 t es.size = true) (h : Q false s) : wpAny (model prog w) A (setDrawn a) Q E s := by
 unfold setDrawn;refine Qq (wpAny_setState_of ho hd hf (Qq (zhb (Qv ?_))));cases e : w.params.followText "set-order" with
 | true => exact h
 | false =>
  have pl : t.plain = true := by
   have := g e;unfold x4 at this;simp only [Q5] at this;exact this.1.1.1
  show Q (!false && (!t.plain && decide (es.size > 1))) s;rw [pl];exact h
theorem ztz {Q : Value -> Shared -> Prop} (ho : s.heap.get? a = some o) (hex : o.ExactSet) (hd : o.data = .set es ep t) (hf : t.fits es.size = true) (g : w.params.followText "set-order" = false -> x4 t es.size = true)
  (q : Q (.ref s.heap.objs.size) { s with heap := s.heap.push (qK 0 0 a es.size ep) }) : wpAny (model prog w) A (pyIter (.ref a)) Q E s := by
 have ty : s.TypeIs (.ref a) "set" := ⟨o, ho, hex.1⟩;refine wpAny_pyIter_slot ty F.slot_set_iter (Jd F.slot_set_iter ty zbj ?_ (F.args_set_iter_1 _));unfold Builtin.«frozenset.__iter__»;refine Qq (wpAny_of_eq (a := a) rfl (Qq ?_));unfold Builtin.Frozenset.sizeOf setEntries;refine Qq (Qq (wpAny_setState_of ho hd hf (Qv (Qv (Qq (zul ho hd hf g ?_))))));simp only [Wy, if_false];refine Qq (Qv (Qq (wpAny_setEpoch_of ho hd hf (Qq ?_))));unfold newFields;refine Jg (Qv ⟨_, rfl, "set_iterator", _, ⟨_, Qb _ rfl, rfl⟩, slot_si_next.lookup, ?_⟩) (by size_fits);exact q
end
def wE (w : World) (a : Addr) (ep : Nat) (es : Array (Int × Value)) : Array (Int × Value) := if w.params.followText "set-order" = true then pickOrder (w.params.setOrder a ep) es else es
theorem zyv {t : SetTable} {n i : Nat} (h : x4 t n = true) (hi : i <= n) : t.plain = true /\ t.led = true /\ t.place.size = n /\ SetTable.below t.place (vD t i) = i := by
 unfold x4 at h;simp only [Q5, beq_iff_eq, Jb] at h;exact ⟨h.1.1.1, h.1.1.2, h.1.2, h.2 i (Q0.mpr (by omega))⟩
section
variable {prog : Program} {w : World} {A : Around} {E : Value -> Shared -> Prop} {s : Shared} {it a : Addr} {o : Obj} {es : Array (Int × Value)} {ep i : Nat} {t : SetTable} {slot : Nat}
theorem zju {Q : Option (Value × Nat) -> Shared -> Prop} (ho : s.heap.get? a = some o) (hd : o.data = .set es ep t) (hf : t.fits es.size = true) (g : w.params.followText "set-order" = false -> x4 t es.size = true /\ slot = vD t i) (hi : i <= es.size)
  (q : ∀ nx, (w.params.followText "set-order" = false -> i < es.size -> nx = vD t (i + 1)) -> Q (((wE w a ep es)[i]?).map fun e => (e.2, nx)) s) : wpAny (model prog w) A (setNext a slot i ep) Q E s := by
 unfold setNext;refine Qq (wpAny_setState_of ho hd hf (Qq (zhb ?_)));unfold wE at q;cases e : w.params.followText "set-order" with
 | true =>
  rw [e] at q;simp only [if_true] at q ⊢;rw [if_neg (by simp)];unfold setWalk;refine Qq (Qq (wpAny_setState_of ho hd hf (Qq (zhb ?_))));rw [e];simp only [if_true];refine Qq (wpAny_askSetting (Qv (Qv ?_)));exact q slot (fun z => nomatch z)
 | false =>
  obtain ⟨gg, es1⟩ := g e;obtain ⟨p1, p2, p3, p4⟩ := zyv gg hi;rw [e] at q;simp only [Wy, if_false] at q ⊢;refine wpAny_ite_split (fun hab => absurd (show (!t.plain && decide (es.size > 1)) = true from hab) (by rw [p1]; simp)) (fun _ => ?_);refine Qq (show wpAny _ _ (if (!t.led && !es.isEmpty) = true then unsupported "set:maker-not-led" else pure ()) _ _ _ from ?_);rw [p2, if_neg (by simp)];refine Qv (Qv ?_);rw [es1, p4];by_cases lt : i < es.size
  ·have e1 : es[i]? = some es[i] := Array.getElem?_eq_getElem lt;have e2 : t.place[i]? = some t.place[i] := Array.getElem?_eq_getElem (by omega);have e3 : t.place.getD i 0 = t.place[i] := by simp [Array.getD, show i < t.place.size by omega]
   have := q (vD t (i + 1)) (fun _ _ => rfl);rw [e1] at this ⊢;rw [e2];have e4 : vD t (i + 1) = t.place[i] + 1 := by
    unfold vD;rw [if_neg (by omega), Nat.add_sub_cancel, e3]
   rw [e4] at this;exact this
  ·have e1 : es[i]? = none := Array.getElem?_eq_none (by omega);have := q 0 (fun _ z => absurd z lt);rw [e1] at this ⊢;exact this
theorem ztt {e : Int × Value} {Q : Option Value -> Shared -> Prop} (hit : s.heap.get? it = some (qK slot i a es.size ep)) (ho : s.heap.get? a = some o) (hd : o.data = .set es ep t) (hf : t.fits es.size = true)
  (g : w.params.followText "set-order" = false -> x4 t es.size = true /\ slot = vD t i) (hi : i < es.size) (hx : (wE w a ep es)[i]? = some e)
  (q : ∀ nx h', (w.params.followText "set-order" = false -> nx = vD t (i + 1)) -> h'.get? it = some (qK (nx : Nat) ((i + 1 : Nat) : Int) a es.size ep) -> Heap.SameBut it s.heap h' -> Q (some e.2) { s with heap := h' }) : wpAny (model prog w) A (pyNext (.ref it)) Q E s := by
 have ty : s.TypeIs (.ref it) "set_iterator" := ⟨_, hit, rfl⟩;unfold pyNext;refine Qq (wpAny_attempt (wpAny_callSpecial?_slot (name := Str.ofString "__next__") ty slot_si_next (Jd slot_si_next ty jR ?_ (kF _))));unfold Builtin.«set_iterator.__next__»;refine Qq (wpAny_of_eq (a := (Value.ref it, [])) rfl (Qq (wpAny_fieldsOf hit rfl ?_)));show wpAny _ _ (setEntries a >>= _) _ _ s;unfold setEntries;refine Qq (Qq (wpAny_setState_of ho hd hf (Qv ?_)));rw [if_neg (by simp)];show wpAny _ _ (setNext a (slot : Int).toNat (i : Int).toNat (ep : Int).toNat >>= _) _ _ s;simp only [Q4];refine Qq (zju ho hd hf g (by omega) fun nx hnx => ?_);rw [hx];simp only [Option.map_some];refine Qq (wpAny_setField_rec hit (by simp) fun h1 e1 b1 => ?_)
 replace b1 : Heap.SameBut it s.heap h1 := b1
 replace e1 : h1.get? it = some (qK (nx : Nat) i a es.size ep) := e1
 refine Qq (wpAny_setField_rec (s := { s with heap := h1 }) e1 (by simp) fun h2 e2 b2 => ?_)
 replace b2 : Heap.SameBut it h1 h2 := b2
 replace e2 : h2.get? it = some (qK (nx : Nat) ((i : Int) + 1) a es.size ep) := e2
 exact Qv ⟨_, rfl, Qv (q nx h2 (fun z => hnx z hi) (by rw [show ((i + 1 : Nat) : Int) = (i : Int) + 1 by omega]; exact e2) (b1.trans b2))⟩
theorem zze {Q : Option Value -> Shared -> Prop} (hh : A.handled = none) (hit : s.heap.get? it = some (qK slot i a es.size ep)) (ho : s.heap.get? a = some o) (hd : o.data = .set es ep t) (hf : t.fits es.size = true)
  (g : w.params.followText "set-order" = false -> x4 t es.size = true /\ slot = vD t i) (hi : i = es.size) (hx : (wE w a ep es)[i]? = none)
  (q : ∀ h', Heap.ExtBut it s.heap h' -> Q none { s with heap := h' }) : wpAny (model prog w) A (pyNext (.ref it)) Q E s := by
 have ty : s.TypeIs (.ref it) "set_iterator" := ⟨_, hit, rfl⟩;unfold pyNext;refine Qq (wpAny_attempt (wpAny_callSpecial?_slot (name := Str.ofString "__next__") ty slot_si_next (Jd slot_si_next ty jR ?_ (kF _))));unfold Builtin.«set_iterator.__next__»;refine Qq (wpAny_of_eq (a := (Value.ref it, [])) rfl (Qq (wpAny_fieldsOf hit rfl ?_)));show wpAny _ _ (setEntries a >>= _) _ _ s;unfold setEntries;refine Qq (Qq (wpAny_setState_of ho hd hf (Qv ?_)));rw [if_neg (by simp)];show wpAny _ _ (setNext a (slot : Int).toNat (i : Int).toNat (ep : Int).toNat >>= _) _ _ s;simp only [Q4];refine Qq (zju ho hd hf g (by omega) fun nx hnx => ?_);rw [hx];simp only [Option.map_none];show wpAny _ _ (setField (.ref it) 2 .none >>= _) _ _ s;refine Qq (wpAny_setField hit rfl (by simp) ?_);show wpAny _ _ (newExc (.type "StopIteration") [] >>= _) _ _ _;refine Qq ?_;simp only [newExc, newTuple];refine Qq (Jg (Qq (m := firstArgMember _ _) (wpAny_of_eq (a := Value.none) (by first | rfl | (simp only [firstArgMember]; rfl)) (Jg ?_ (by size_fits)))) (by size_fits));simp only [raiseNew];refine Qq (wpAny_handled ?_);rw [show A.in1.handled = none from hh];refine Qq (Qv (wpAny_throw ?_));exact Qq (wpAny_isInstance (T := "StopIteration") (b := true) ⟨_, Qb _ rfl, rfl⟩ isSubtype_stop (Qv (q _ (((Heap.SameBut.update ..).extBut.push _).push _))))
theorem zta {Q : Value -> Shared -> Prop} (hit : s.heap.get? it = some (qK slot i a es.size ep)) (h : Q (.ref it) s) : wpAny (model prog w) A (pyIter (.ref it)) Q E s := by
 have ty : s.TypeIs (.ref it) "set_iterator" := ⟨_, hit, rfl⟩;refine wpAny_pyIter_slot ty j7 (Jd j7 ty zdu ?_ (zgg _));show wpAny _ _ (ret (.ref it)) _ _ s;exact Qv ⟨_, rfl, "set_iterator", _, ty, slot_si_next.lookup, h⟩
end
theorem zof {α : Type} (next : Nat -> Nat) : ∀ (f k : Nat) (l : List α) (out : Array α), f = l.length -> (pickOrder.go next f k l out).toList.Perm (out.toList ++ l)
 | 0, _, l, out, h => by
  have : l = [] := List.eq_nil_of_length_eq_zero h.symm;subst this;simp [pickOrder.go]
 | f + 1, k, l, out, h => by
  unfold pickOrder.go;have pos : 0 < l.length := by omega
  have lt : next k % l.length < l.length := Nat.mod_lt _ pos;rw [Q9 lt];dsimp only;refine (zof next f (k + 1) _ _ (by rw [List.length_eraseIdx, if_pos lt]; omega)).trans ?_;rw [Array.toList_push, Jc];refine List.Perm.append_left _ ?_;show (l[next k % l.length] :: l.eraseIdx (next k % l.length)).Perm l;generalize next k % l.length = j at lt;have e1 : l.eraseIdx j = l.take j ++ l.drop (j + 1) := List.eraseIdx_eq_take_drop_succ l j;have e2 : l = l.take j ++ l[j] :: l.drop (j + 1) := by rw [List.getElem_cons_drop]; exact (List.take_append_drop j l).symm
  rw [e1];refine List.Perm.trans ?_ (List.Perm.of_eq e2.symm);exact List.perm_middle.symm
theorem zcz (w : World) (a : Addr) (ep : Nat) (es : Array (Int × Value)) : (wE w a ep es).toList.Perm es.toList := by
 unfold wE;split
 ·unfold pickOrder;have := zof (w.params.setOrder a ep) es.size 0 es.toList #[] (by simp)
  simpa using this
 ·exact List.Perm.refl _
theorem k7 (w : World) (a : Addr) (ep : Nat) (es : Array (Int × Value)) : (wE w a ep es).size = es.size := by have := (zcz w a ep es).length_eq; simpa using this
theorem Walks.setW {prog : Program} {w : World} {A : Around} (hh : A.handled = none) (I a : Addr) (ne : a ≠ I) {o : Obj} {es : Array (Int × Value)} {ep : Nat} {t : SetTable} (hd : o.data = .set es ep t) (hf : t.fits es.size = true) (g : w.params.followText "set-order" = false -> x4 t es.size = true) :
  Walks prog w A I [I, a] [I] es.size (fun i v => ((wE w a ep es)[i]?).map (·.2) = some v) (fun i h => i <= es.size /\ (∃ slot : Nat, h.get? I = some (qK slot i a es.size ep) /\ (w.params.followText "set-order" = false -> slot = vD t i)) /\ h.get? a = some o) where
 sub := fun b hb => by simp at hb; simp [hb]
 frame := fun _ _ _ x hk => ⟨x.1, let ⟨sl, e, r⟩ := x.2.1; ⟨sl, hk I (by simp) _ e, r⟩, hk a (by simp) _ x.2.2⟩
 item := fun i s Q E hi x q => by
  obtain ⟨_, ⟨sl, hit, hs⟩, ho⟩ := x;have e : (wE w a ep es)[i]? = some ((wE w a ep es)[i]'(by rw [k7]; exact hi)) := Array.getElem?_eq_getElem _;refine ztt hit ho hd hf (fun z => ⟨g z, hs z⟩) hi e fun nx h' hn hit' sb => ?_;exact q _ h' s.toks (by rw [e]; rfl) ⟨hi, ⟨nx, hit', hn⟩, (sb.2 a ne).trans ho⟩ fun b o hb eo => sb.extBut b o (fun z => hb (by simp [z])) eo
 done := fun s Q E x q => by
  obtain ⟨_, ⟨sl, hit, hs⟩, ho⟩ := x;exact zze hh hit ho hd hf (fun z => ⟨g z, hs z⟩) rfl (Array.getElem?_eq_none (by rw [k7]; exact Qw _)) fun h' eb => q h' s.toks fun b o hb eo => eb b o (fun z => hb (by simp [z])) eo
 self := fun _ _ _ _ x q => let ⟨_, ⟨_, hit, _⟩, _⟩ := x; zta hit q
section
variable {prog : Program} {w : World} {A : Around} {E : Value -> Shared -> Prop} {s : Shared} {a : Addr} {o : Obj} {es : Array (Int × Value)} {ep : Nat} {t : SetTable}
theorem zbi : typeLookup (.type "set") "__len__" = pure (some (.builtin "set.__len__")) := by rw [typeLookup_type, builtinLookup_eq_fast]; kernel_rfl
theorem zub {Q : Bool -> Shared -> Prop} (ty : s.TypeIs (.ref a) "set") (h : Q false s) : wpAny (model prog w) A (Builtin.List.listLengthHint (.ref a)) Q E s := by
 unfold Builtin.List.listLengthHint;refine Qq (wpAny_specialOf ty zbi ?_);generalize hid : ("set.__len__" : String) = id0
 wp_delta
 rw [show splitId id0 = some ("set", "__len__") from by subst hid; decide +kernel];subst hid;refine Qq (wpAny_isInstance (T := "set") (b := true) ty (by rw [isSubtype_type]; kernel_rfl) ?_);refine wpAny_ite_split (fun hab => absurd hab (by decide)) (fun _ => ?_);refine wpAny_ite_split (fun _ => ?_) (fun hab => absurd (by decide +kernel) hab);refine Qq (wpAny_typeOf ty ?_);exact Qv h
theorem zmj {R : Result -> Shared -> Prop} (hh : A.handled = none) (ho : s.heap.get? a = some o) (hex : o.ExactSet) (hd : o.data = .set es ep t) (hf : t.fits es.size = true) (g : w.params.followText "set-order" = false -> x4 t es.size = true) (hz : es.size <= 1000)
  (S : Addr) (res : Value) (c : Nat) (hS : s.heap.get? S = some { cls := .type "list", data := .seq #[] c })
  (q : ∀ h' tk acc c', (∀ b o, b ≠ S -> s.heap.get? b = some o -> h'.get? b = some o) -> h'.get? S = some { cls := .type "list", dict := none, data := .seq acc c', slots := #[] } ->
   ItemsOf (fun i v => ((wE w a ep es)[i]?).map (·.2) = some v) acc es.size -> R (.ok (.ret res)) { s with heap := h', toks := tk }) :
  wpAny (model prog w) A.in1 (Builtin.List.listExtendWith (.ref S) (.ref a) res)
   (fun fin s' => match fin with | .done f => R (.ok f) s' | .again c' => c'.quiet = true /\ codeAny (model prog w) A c' R s') (fun e s' => R (.error e) s') s := by
 have ty : s.TypeIs (.ref a) "set" := ⟨o, ho, hex.1⟩;have ni : S ≠ a := fun e => by
  rw [<- e, hS] at ho;cases ho
  cases hd
 have la : a < s.heap.objs.size := Qt ho;have lS : S < s.heap.objs.size := Qt hS;have Wk := (Walks.setW (prog := prog) (w := w) (A := A.in1) hh s.heap.objs.size a (Q7 la) hd hf g).toS;have nS : S ∉ [s.heap.objs.size, a] := by
  intro z;rcases Qs.mp z with z | z
  ·exact Q7 lS z
  ·exact ni (Qx.mp z)
 have key : ∀ (h : Heap) (c₁ tk : Nat), h.get? s.heap.objs.size = some (qK 0 0 a es.size ep) -> (∀ b o, b ≠ S -> s.heap.get? b = some o -> h.get? b = some o) -> h.get? S = some { cls := .type "list", data := .seq #[] c₁ } ->
   codeAny (model prog w) A (.builtin "list.extend.loop" ⟨[.ref S, .ref s.heap.objs.size, res], []⟩) R { s with heap := h, toks := tk } := by
  intro h c₁ tk e1 e2 e3;refine codeAny_extend_loopS Wk (by rw [sizeLine_eq]; omega) S nS res es.size 0 _ #[] c₁ rfl (Jj _) ⟨Jj _, ⟨0, e1, fun _ => rfl⟩, e2 a o (Ne.symm ni) ho⟩ e3 (ItemsOf.nil _) fun s' acc c' hm hS' hacc => ?_;rw [Moved.eq_with hm];refine q s'.heap s'.toks acc c' (fun b o hb e => hm.heap b o (fun hmem => ?_) (e2 b o hb e)) hS' hacc;rcases Qs.mp hmem with e' | hmem
  ·exact hb e'
  ·exact absurd (Qt e) (by rw [Qx.mp hmem]; exact Wn _)
 unfold Builtin.List.listExtendWith;refine Qq (wpAny_typeOf (T := "set") ty ?_);simp only [show Builtin.List.listSameRef (.ref S) (.ref a) = false from by simp [Builtin.List.listSameRef, ni], show (Value.type "set" == Value.type "list") = false from by decide, show (Value.type "set" == Value.type "tuple") = false from by decide, Bool.or_false, Wy, if_false];refine Qq (ztz ho hex hd hf g (Qq (wpAny_holding (zub (s := { s with heap := s.heap.push (qK 0 0 a es.size ep) }) ⟨o, Qz _ ho, hex.1⟩ ?_))));have i1 : (s.heap.push (qK 0 0 a es.size ep)).get? s.heap.objs.size = some (qK 0 0 a es.size ep) := Qb _ rfl;have S1 := Qz (qK 0 0 a es.size ep) hS;have nSi : S ≠ s.heap.objs.size := Q7 lS;refine wpAny_ite_split (fun _ => ?_) (fun hab => absurd (by decide) hab);refine Qq (wpAny_rule (Qq ?_));show wpAny _ _ (updateSeq S (·.push .none) >>= fun _ => updateSeq S (·.pop)) _ _ _;refine Qq (wpAny_updateSeq S1 rfl ?_);have S2 := Wt (Obj.mapSeq (·.push Value.none)) S1 rfl;refine wpAny_updateSeq (hz := by seq_fits) S2 rfl ?_;have S3 := Wt (Obj.mapSeq (·.pop)) S2 rfl;refine Qv ⟨plainId_quiet F.plain_extend_loop _, key _ _ _ ?_ (fun b o hb e => ?_) S3⟩
 ·exact (Wd _ _ nSi).trans ((Wd _ _ nSi).trans i1)
 ·exact (Wd _ _ (Ne.symm hb)).trans ((Wd _ _ (Ne.symm hb)).trans (Qz _ e))
theorem hG {R : Result -> Shared -> Prop} (hh : A.handled = none) (ho : s.heap.get? a = some o) (hex : o.ExactSet) (hd : o.data = .set es ep t) (hf : t.fits es.size = true) (g : w.params.followText "set-order" = false -> x4 t es.size = true) (hz : es.size <= 1000)
  (q : ∀ h' tk acc c', (∀ b o, s.heap.get? b = some o -> h'.get? b = some o) -> h'.get? s.heap.objs.size = some { cls := .type "list", dict := none, data := .seq acc c', slots := #[] } ->
   ItemsOf (fun i v => ((wE w a ep es)[i]?).map (·.2) = some v) acc es.size -> R (.ok (.ret (.ref s.heap.objs.size))) { s with heap := h', toks := tk }) : codeAny (model prog w) A (.builtin "proto.collect" ⟨[.ref a], []⟩) R s := by
 have nl : (s.heap.push { cls := .type "list", data := .seq ([] : List Value).toArray }).get? s.heap.objs.size = some { cls := .type "list", data := .seq ([] : List Value).toArray } := Qb _ rfl;refine codeAny_builtin PySem.F.entry_proto_collect ?_;rw [Around.under_plainId PySem.F.plain_proto_collect _];show wpAny _ A.in1 (newList [] >>= fun l => again (.builtin "list.__iadd__" ⟨[l, .ref a], []⟩)) _ _ s;refine Qq (Jg (Qv ⟨plainId_quiet PySem.F.plain_list_iadd _, codeAny_builtin PySem.F.entry_list_iadd ?_⟩));rw [Around.under_plainId PySem.F.plain_list_iadd _];show wpAny _ A.in1 (Builtin.List.listExtendWith (.ref s.heap.objs.size) (.ref a) (.ref s.heap.objs.size)) _ _ _;exact zmj (R := R) (s := { s with heap := s.heap.push { cls := .type "list", data := .seq ([] : List Value).toArray } }) hh (Qz _ ho) hex hd hf g hz s.heap.objs.size _ 0 nl fun h' tk acc c' hk hS' hacc => q h' tk acc c' (fun b o z => hk b o (Q7 (Qt z)) (Qz _ z)) hS' hacc
theorem ziz {Q : List Value -> Shared -> Prop} (hh : A.handled = none) (ho : s.heap.get? a = some o) (hex : o.ExactSet) (hd : o.data = .set es ep t) (hf : t.fits es.size = true) (g : w.params.followText "set-order" = false -> x4 t es.size = true) (hz : es.size <= 1000)
  (q : ∀ h' tk, (∀ b o, s.heap.get? b = some o -> h'.get? b = some o) -> s.heap.objs.size < h'.objs.size -> Q ((wE w a ep es).toList.map (·.2)) { s with heap := h', toks := tk }) : wpAny (model prog w) A (collect (.ref a)) Q E s := by
 unfold collect;refine Qq (wpAny_runValue (hG hh ho hex hd hf g hz fun h' tk acc c' hk hS' hacc => ?_));show wpAny _ A (load s.heap.objs.size >>= _) _ _ _;refine Qq (wpAny_load hS' (Qv ?_));have e : acc.toList = (wE w a ep es).toList.map (·.2) := by
  apply List.ext_getElem?;intro i;by_cases c : i < es.size
  ·have ia : i < acc.size := by rw [hacc.1]; exact c
   have e1 := hacc.2 i acc[i] (by simp [ia]);have e2 : acc.toList[i]? = some acc[i] := by simp [ia]
   rw [e2, Jz, Array.getElem?_toList, e1]
  ·rw [List.getElem?_eq_none (by rw [Array.length_toList, hacc.1]; omega), List.getElem?_eq_none (by rw [Qj, Array.length_toList, k7]; omega)]
 rw [e];exact q h' tk hk (Qt hS')
end
section
variable {prog : Program} {w : World} {A : Around} {E : Value -> Shared -> Prop} {s : Shared} {a : Addr}
theorem zlu {ns : List Int} {Q : Value -> Shared -> Prop} (hh : A.handled = none) (hS : TabS s.heap a (!w.params.followText "set-order") ns) (g : x4 (jX true ns).2 ns.length = true) (h64 : ns.length < 64)
  (q : ∀ (h' : Heap) (tk : Nat) (l : Addr) (out : Array Value) (ms : List Int) (e : Nat), (∀ b o, s.heap.get? b = some o -> h'.get? b = some o) -> s.heap.objs.size <= l -> h'.get? l = some (seqObj "list" out e) -> IntsAre out.toList ms -> ms.Perm ns -> ms.Pairwise (· <= ·) -> Q (.ref l) { s with heap := h', toks := tk }) :
  wpAny (model prog w) A (call (.builtin "sorted") [.ref a]) Q E s := by
 obtain ⟨o, es, ep, t, ho, hex, hd, e1, e2, el, pm, hf, hz⟩ := hS;have hsz : es.size = ns.length := by have := pm.length_eq; simpa using this
 have g' : w.params.followText "set-order" = false -> x4 t es.size = true := fun z => by
  rw [z] at e2;rw [e2, hsz];exact g
 refine Calls.call_function_entry kind_sorted plain_sorted entry_sorted (args_sorted1 _) ?_;unfold Builtin.«sorted»;refine Qq (m := checkCount "sorted" 1 1 _) (Qv (Qq (ziz (by exact hh) ho hex hd hf g' (by lia) fun h1 tk k1 z1 => ?_)));have lv : ((wE w a ep es).toList.map (·.2)).length = ns.length := by rw [Qj, Array.length_toList, k7, hsz]
 have hI : IntsAre ((wE w a ep es).toList.map (·.2)) ((wE w a ep es).toList.map (·.1)) := by
  have all : ∀ e ∈ (wE w a ep es).toList, ∃ tk, e.2 = Value.int e.1 tk := fun e he => (el e ((zcz w a ep es).mem_iff.mp he)).1;generalize (wE w a ep es).toList = L at all;clear lv
  induction L with
  | nil => exact .nil
  | cons e r ih =>
   obtain ⟨tk, ee⟩ := all e Qk;rw [Qm, Qm, ee];exact .cons _ _ (ih fun e he => all e (Qy _ he))
 have pI : ((wE w a ep es).toList.map (·.1)).Perm ns := ((zcz w a ep es).map _).trans pm;refine Qq (wpAny_newList ?_ (by rw [lv, sizeLine_eq]; lia));have oL : (h1.push (seqObj "list" ((wE w a ep es).toList.map (·.2)).toArray 0)).get? h1.objs.size = some (seqObj "list" ((wE w a ep es).toList.map (·.2)).toArray 0) := Qb _ rfl;refine Qq (wpAny_holding (Jd slot_list_sort ⟨_, oL, rfl⟩ entry_list_sort (list_sort_tree oL hI (by lia) fun out ms a1 a2 a3 => ⟨_, rfl, ?_⟩) (args_list_sort _)));obtain ⟨e, he⟩ := sortedHeap_at (out := out) oL;refine Qv ⟨_, rfl, q _ _ _ out ms e (fun b o z => ?_) (J9 z1) he a1 (a2.trans pI) a3⟩;have lb := Qt (k1 b o z);show (sortedHeap _ _ _ _).get? b = some o;rw [sortedHeap_old (Q7 lb) (by rw [size_push']; exact Nat.lt_succ_of_lt lb)];exact Qz _ (k1 b o z)
end
section
variable {X : Cx}
def zvr (w : World) (a : Addr) (ns : List Int) : HO := .ext fun h => TabS h a (!w.params.followText "set-order") ns
theorem zre (hc : X.calm = true) : xE X (.type "set") (fun xs H Q => ∃ (p : Addr) (ns : List Int), xs = [.ref p] /\ SqL X.K H p (ns.map V.int) /\ ns.length < 80 /\ (∀ n ∈ ns, 0 <= n /\ n <= 8) /\ ∀ l, H l = none -> Q (.ref l) (upd H l (zvr X.w l (firstMet (fun i => ns.getD i 0) ns.length)))) := by
 intro pins s σ H xs us Q I r h;obtain ⟨p, ns, rfl, hp, hn, sm, q⟩ := h;obtain ⟨u, rfl, ru⟩ := Vals.one r;cases (show u = Value.ref p from ru)
 obtain ⟨its, r1, t1, _⟩ := I.list hp;have hl : its.length = ns.length := by have := r1.length; rw [Qj] at this; lia
 refine zdy (I.ok.hd hc) t1.isList (by simpa using zff r1) (by rw [Qh]; lia) sm fun h' tk hS hk => ?_;have hs : its.toArray.size = ns.length := by rw [Qh, hl]
 rw [hs] at hS;refine ⟨.ref s.heap.objs.size, upd H s.heap.objs.size (zvr X.w _ _), I.laid (fun b o e => hk b o (Qt e) e) (Qw _) ⟨hS, ?_, fun h1 h2 a b => a.at b⟩, rfl, q _ (I.hok.fresh (Qw _))⟩;obtain ⟨o, _, _, _, g, _⟩ := hS;exact ⟨o, g⟩
theorem zgb (hc : X.calm = true) : xE X (.builtin "sorted") (fun xs H Q => ∃ (p : Addr) (ns : List Int), xs = [.ref p] /\ H p = some (zvr X.w p ns) /\ ns.length < 64 /\ x4 (jX true ns).2 ns.length = true /\ ∀ (l : Addr) (ms : List Int), ms.Perm ns -> ms.Pairwise (· <= ·) -> H l = none -> Q (.ref l) (upd H l (.lst (ms.map V.int)))) := by
 intro pins s σ H xs us Q I r h;obtain ⟨p, ns, rfl, hp, hn, gg, q⟩ := h;obtain ⟨u, rfl, ru⟩ := Vals.one r;cases (show u = Value.ref p from ru)
 obtain ⟨hS, _, _⟩ := I.hok p _ hp;refine zlu (I.ok.hd hc) hS gg hn fun h' tk l out ms e k fr he a1 a2 a3 => ?_;refine ⟨.ref l, upd H l (.lst (ms.map V.int)), I.laid k fr ⟨?_, out.toList, e, v7 a1, by rw [he]⟩, rfl, q _ ms a2 a3 (I.hok.fresh fr)⟩;rw [Qj, a2.length_eq];exact Jx (J9 hn) (by decide)
end
section
variable {prog : Program} {w : World} {A : Around} {E : Value -> Shared -> Prop} {s : Shared}
theorem ziy {l : Addr} {vs : List Value} {Q : List Value -> Shared -> Prop} (hl : IsTup s.heap l vs.toArray) (hsz : vs.length <= sizeLine)
  (h : Q vs { s with heap := (s.heap.push (seqObj "list" #[] 0)).update s.heap.objs.size (Obj.mapSeq (· ++ vs.toArray)) }) : wpAny (model prog w) A (collect (.ref l)) Q E s := by
 obtain ⟨o, ho, hc, n, hd⟩ := id hl;unfold collect;refine Qq (wpAny_runValue (codeAny_builtin entry_proto_collect' ?_));show wpAny _ _ (do again (.builtin "list.__iadd__" ⟨[<- newList [], .ref l], []⟩)) _ _ s;refine Qq (wpAny_newList (Qv ⟨Code.quiet_builtin _ (by decide +kernel), codeAny_builtin entry_list_iadd' ?_⟩));show wpAny _ _ (Builtin.List.listExtendWith (.ref s.heap.objs.size) (.ref l) (.ref s.heap.objs.size)) _ _ { s with heap := s.heap.push (seqObj "list" #[] 0) };have ho' : (s.heap.push (seqObj "list" #[] 0)).get? l = some o := Qz _ ho;unfold Builtin.List.listExtendWith;refine Qq (wpAny_typeOf (T := "tuple") ⟨o, ho', hc⟩ ?_);rw [if_pos (by rw [show (Value.type "tuple" == Value.type "tuple") = true from rfl]; simp)];refine Qq (listItems_at ho' hd (Qq (listItems_at (xs := #[]) (n := 0) (Qb _ rfl) rfl ?_)));rw [if_neg (by simp)];refine Qq (listUpdate_at (xs := #[]) (n := 0) (Qb _ rfl) rfl (Qv ?_) (Jj _) (by show (#[] ++ vs.toArray).size <= sizeLine + 1; simp only [Array.size_append, Qh, List.length_nil]; omega));show wpAny (model prog w) A (load s.heap.objs.size >>= _) Q E { s with heap := (s.heap.push (seqObj "list" #[] 0)).update s.heap.objs.size (Obj.mapSeq (· ++ vs.toArray)) };refine Qq (wpAny_load (get?_update_seq (Qb _ rfl) _) ?_);show wpAny _ _ (pure ((#[] : Array Value) ++ vs.toArray).toList) Q E _;rw [show ((#[] : Array Value) ++ vs.toArray).toList = vs by simp];exact Qv h
theorem zlt {l : Addr} {vs : List Value} {ns : List Int} {Q : Value -> Shared -> Prop} (hl : IsTup s.heap l vs.toArray) (hI : IntsAre vs ns) (h64 : vs.length < 64)
  (h : ∀ (out : Array Value) (ms : List Int), IntsAre out.toList ms -> ms.Perm ns -> ms.Pairwise (· <= ·) -> Q (.ref (s.heap.objs.size + 1)) { s with heap := sortedAll s.heap vs out }) :
  wpAny (model prog w) A (call (.builtin "sorted") [.ref l]) Q E s := by
 refine Calls.call_function_entry kind_sorted plain_sorted entry_sorted (args_sorted1 _) ?_;unfold Builtin.«sorted»;refine Qq (m := checkCount "sorted" 1 1 _) (Qv (Qq (ziy hl (by rw [sizeLine_eq]; omega) (Qq (wpAny_newList ?_ (by rw [sizeLine_eq]; omega))))));have z1 : ((s.heap.push (seqObj "list" #[] 0)).update s.heap.objs.size (Obj.mapSeq (· ++ vs.toArray))).objs.size = s.heap.objs.size + 1 := by rw [Heap.size_update, size_push']
 have oL : (((s.heap.push (seqObj "list" #[] 0)).update s.heap.objs.size (Obj.mapSeq (· ++ vs.toArray))).push (seqObj "list" vs.toArray 0)).get? (s.heap.objs.size + 1) = some (seqObj "list" vs.toArray 0) := by
  rw [<- z1]; exact Qb _ rfl
 show wpAny _ _ _ _ _ { s with heap := ((s.heap.push (seqObj "list" #[] 0)).update s.heap.objs.size (Obj.mapSeq (· ++ vs.toArray))).push (seqObj "list" vs.toArray 0) };rw [z1];refine Qq (wpAny_holding (Jd slot_list_sort ⟨_, oL, rfl⟩ entry_list_sort (list_sort_tree oL hI h64 fun out ms a1 a2 a3 => ⟨_, rfl, ?_⟩) (args_list_sort _)));exact Qv ⟨_, rfl, h out ms a1 a2 a3⟩
end
section
variable {X : Cx}
theorem vI : xE X (.builtin "sorted") (fun xs H Q => ∃ (p : Addr) (ns : List Int), xs = [.ref p] /\ SqT X.K H p (ns.map V.int) /\ ns.length < 64 /\ ∀ (l : Addr) (ms : List Int), ms.Perm ns -> ms.Pairwise (· <= ·) -> H l = none -> Q (.ref l) (upd H l (.lst (ms.map V.int)))) := by
 intro pins s σ H xs us Q I r h;obtain ⟨p, ns, rfl, hp, hn, q⟩ := h;obtain ⟨u, rfl, ru⟩ := Vals.one r;cases (show u = Value.ref p from ru)
 obtain ⟨its, r1, t1, _⟩ := I.tuple hp;have hl : its.length = ns.length := by have := r1.length; rw [Qj] at this; omega
 refine zlt t1 (qB r1) (by omega) fun out ms a1 a2 a3 => ?_;obtain ⟨e, he⟩ := sortedAll_at s.heap its out;have fr : s.heap.objs.size <= s.heap.objs.size + 1 := Ws _;refine ⟨.ref (s.heap.objs.size + 1), upd H (s.heap.objs.size + 1) (.lst (ms.map V.int)), I.laid (t' := s.toks) (fun b o z => sortedAll_old z) fr ?_, rfl, q _ ms a2 a3 (I.hok.fresh fr)⟩;refine ⟨?_, out.toList, e, v7 a1, by rw [he]⟩;rw [Qj, a2.length_eq];exact Jx (J9 hn) (by decide)
end
end L2
namespace L2
open PySem PySem.W PyProof.Rows
section
variable {prog : Program} {w : World} {A : Around} {E : Value -> Shared -> Prop} {s : Shared} {κ : SortKind} {it : Array Keyed} {lt : Nat -> Nat -> Bool} {N : Nat}
end
end L2
namespace L2
open PySem PySem.W PyProof.Rows
section
variable {lt : Nat -> Nat -> Bool}
end
section
variable {prog : Program} {w : World} {A : Around} {E : Value -> Shared -> Prop} {s : Shared} {κ : SortKind} {it : Array Keyed} {lt : Nat -> Nat -> Bool} {N : Nat}
end
end L2
namespace L2
open PySem PySem.W PyProof.Rows
section
variable {prog : Program} {w : World} {A : Around} {E : Value -> Shared -> Prop} {s : Shared} {κ : SortKind} {it : Array Keyed} {lt : Nat -> Nat -> Bool} {N : Nat}
end
end L2
namespace L2
open PySem PySem.W PyProof.Rows
section
variable {prog : Program} {w : World} {A : Around} {E : Value -> Shared -> Prop} {s : Shared} {κ : SortKind} {it : Array Keyed} {lt : Nat -> Nat -> Bool} {N : Nat}
end
end L2
namespace L2
open PySem PySem.W PyProof.Rows
section
variable {prog : Program} {w : World} {A : Around} {E : Value -> Shared -> Prop} {s : Shared} {κ : SortKind} {it : Array Keyed} {lt : Nat -> Nat -> Bool} {N : Nat}
end
end L2
namespace L2
open PySem PySem.W PyProof.Rows
section
variable {prog : Program} {w : World} {A : Around} {E : Value -> Shared -> Prop} {s : Shared} {κ : SortKind} {it : Array Keyed} {lt : Nat -> Nat -> Bool} {N : Nat}
end
end L2
namespace L2
open PySem PySem.W PyProof.Rows
section
variable {prog : Program} {w : World} {A : Around} {E : Value -> Shared -> Prop} {s : Shared} {κ : SortKind} {it : Array Keyed} {lt : Nat -> Nat -> Bool} {N : Nat}
end
end L2
namespace L2
open PySem PySem.W PyProof.Rows
section
variable {prog : Program} {w : World} {A : Around} {E : Value -> Shared -> Prop} {s : Shared} {κ : SortKind} {it : Array Keyed} {lt : Nat -> Nat -> Bool} {N : Nat}
end
end L2
namespace L2
open PySem PySem.W PyProof.Rows
section
variable {prog : Program} {w : World} {A : Around} {E : Value -> Shared -> Prop} {s : Shared} {κ : SortKind} {it : Array Keyed} {lt : Nat -> Nat -> Bool} {N : Nat}
end
end L2
namespace L2
open PySem PySem.W PyProof.Rows
section
variable {prog : Program} {w : World} {A : Around} {E : Value -> Shared -> Prop} {s : Shared}
end
end L2
namespace L2
open PySem PySem.W PyProof.Rows
section
variable {X : Cx}
end
end L2
namespace L2
open PySem PySem.Spec PyProof.Rows
theorem sqT {K : PySem.W.Frag} {H H' : Hp} {a : Addr} {xs : List V} (e : Same H H') (h : SqT K H a xs) : SqT K H' a xs := e.seqK (k := .t) h
section
variable {X : Cx}
theorem zuz : xE X (.builtin "isinstance") (fun xs H Q => ∃ a ys n b, xs = [.ref a, .ty n] /\ SqT X.K H a ys /\ PySem.W.kitOne X.K (.type "tuple") (.type n) = some b /\ Q (.bl b) H) := by
 intro pins s σ H xs us Q I r h;obtain ⟨a, ys, n, b, rfl, hq, e, q⟩ := h;obtain ⟨u1, u2, rfl, r1, r2⟩ := Vals.two r;cases (show u1 = Value.ref a from r1)
 cases (show u2 = Value.type n from r2)
 obtain ⟨its, _, ⟨o, h1, h2, _⟩, _⟩ := I.tuple hq;exact PySem.W.kia_one PySem.W.kitx_tuple I.kIn ⟨o, h1, h2⟩ e (fun z => nomatch z) fun tk => ⟨.bl b, H, I.tok tk, rfl, q⟩
def zAq (K : PySem.W.Frag) : R2 := fun x y H Q => ∃ a b xs ys, x = .ref a /\ y = .ref b /\ SqT K H a xs /\ SqT K H b ys /\ xs.length + ys.length <= sizeLine /\ ∀ p H', Same H H' -> SqT K H' p (xs ++ ys) -> Q (.ref p) H'
theorem zon : OpR X (binaryOp .Add) (zAq X.K) := by
 intro pins s σ H x y v u Q I rx ry h;obtain ⟨a, b, xs, ys, rfl, rfl, ha, hb, hz, q⟩ := h;by_cases hx : xs = []
 ·subst hx;exact zoo pins s σ H _ _ v u Q I rx ry ⟨a, b, ys, rfl, rfl, ha, hb, q b H (Same.refl H) hb⟩
 ·refine zom pins s σ H _ _ v u Q I rx ry ⟨a, b, xs, ys, rfl, rfl, ha, hb, hx, hz, fun hy => ?_, fun hy p hp => q p _ (Same.new hp) (SqT.of zC)⟩;subst hy;exact q a H (Same.refl H) (by rw [Jw]; exact ha)
end
end L2
namespace L2
open PySem PySem.W PyProof.Rows
section
variable {X : Cx}
end
section
variable {prog : Program} {w : World} {A : Around}
end
section
variable {X : Cx}
theorem zkw {ns : List Int} {its : List Value} (r : Vals (ns.map V.int) its) {i : Nat} {v : Value} (e : its.toArray[i]? = some v) : ∃ t, v = .int (ns.getD i 0) t := by
 have e' : its[i]? = some v := by simpa using e
 have hl : i < its.length := (Qf.mp e').1;have hb : i < ns.length := by have := r.length; rw [Qj] at this; omega
 obtain ⟨u, e1, t, q⟩ := r.get (i := i) (x := V.int ns[i]) (by simp [hb]);rw [e1] at e';cases e'
 exact ⟨t, by rw [q]; simp [List.getD, hb]⟩
end
end L2
namespace L2
open PySem PySem.Spec PyProof.Rows
section
variable {X : Cx}
def inU (H : Hp) (ks : List Int) (u : Value) : Bool := match u with
 | .ref b => (match H b with | some (.tup ys) => decide (ys = ks.map V.int) | _ => false)
 | _ => false
end
end L2
namespace L2
open PySem PySem.W PyProof.Rows
section
variable {prog : Program} {w : World} {d : Addr} {es : Array DictEntry} {ep : Nat} {o : Obj}
end
section
variable {X : Cx}
end
end L2
namespace L2
open PySem PySem.Spec PyProof.Rows
section
variable {X : Cx}
theorem zdo (bs : List Bool) : (List.range bs.length).any (fun i => bs.getD i false) = bs.any id := by
 rw [Jp, Ju, Ju];constructor
 ·rintro ⟨i, hi, h⟩;have hi' := Q0.mp hi;refine ⟨bs[i], Wc hi', ?_⟩
  simpa [List.getD, hi'] using h
 ·rintro ⟨x, hx, h⟩;obtain ⟨i, hi, e⟩ := List.mem_iff_getElem.mp hx;refine ⟨i, Q0.mpr hi, ?_⟩;simp [List.getD, hi, e];exact h
theorem zlh (hc : X.calm = true) : xE X (.builtin "any") (fun xs H Q => ∃ (p : Addr) (bs : List Bool), xs = [.ref p] /\ SqL X.K H p (bs.map V.bl) /\ Q (.bl (bs.any id)) H) := by
 intro pins s σ H xs us Q I r h;obtain ⟨p, bs, rfl, hp, q⟩ := h;obtain ⟨u, rfl, ru⟩ := Vals.one r;cases (show u = Value.ref p from ru)
 obtain ⟨its, r1, t1, _⟩ := I.list hp;have hh : X.A.in1.handled = none := I.ok.hd hc;have hlt : p < s.heap.objs.size := by obtain ⟨_, e, _⟩ := t1.isList; exact Qt e
 refine call_any_walk (wpAny_pyIter_list t1.isList ⟨_, _, _, _, _, _, fun i => bs.getD i false, rfl, Walks.list hh _ p (Q7 hlt) its.toArray, ⟨⟨_, Qb _ rfl, rfl, rfl⟩, t1.isList.push _⟩, ?_, ?_⟩)
 ·intro i v s' Q' E' e hq;rw [zlj r1 e];exact wpAny_truthy_bool hq
 ·intro h' tk hk;have hl : its.toArray.size = bs.length := by have := r1.length; simp at this ⊢; omega
  rw [hl, zdo];exact ⟨.bl _, H, I.kept (zag hk), rfl, q⟩
def zyc : V -> List V -> Hp -> VK -> Prop := fun x vs H Q => ∃ (l : Addr) (xs : List V) (i : Nat) (y : V), x = .ref l /\ vs = [.int (i : Int), y] /\ H l = some (.lst xs) /\ i <= xs.length /\ xs.length < 1000 /\ Q .non (upd H l (.lst (xs.take i ++ y :: xs.drop i)))
theorem zpn {xs : List V} {us : List Value} (r : Vals xs us) (i : Nat) : Vals (xs.take i) (us.take i) := by
 induction r generalizing i with
 | nil => simp; exact .nil
 | cons a t ih =>
  cases i with
  | zero => exact .nil
  | succ i => exact .cons a (ih i)
theorem zpo {xs : List V} {us : List Value} (r : Vals xs us) (i : Nat) : Vals (xs.drop i) (us.drop i) := by
 induction r generalizing i with
 | nil => simp; exact .nil
 | cons a t ih =>
  cases i with
  | zero => exact .cons a t
  | succ i => exact ih i
theorem zfb : MtM X "list.insert" zyc := by
 intro pins s σ H x vs v us Q I rx rv h;obtain ⟨l, xs, i, y, rfl, rfl, hH, hi, hz, q⟩ := h;cases rx
 obtain ⟨u1, u2, rfl, r1, r2⟩ := Vals.two rv;obtain ⟨t, rfl⟩ := r1;obtain ⟨z, its, n, r, hl, e⟩ := I.lstM hH;have sl : (1000 : Nat) <= sizeLine := by decide
 have hs : its.toArray.size <= sizeLine := by rw [Qh, <- hl]; exact z
 have fin : ∀ ii : Int, ii = (i : Int) -> wpAny (model X.prog X.w) X.A (call (.builtin "list.insert") [.ref l, .int ii t, u2]) (EP X pins σ Q) X.xe s := by
  intro ii hii;have hfit : ¬(!Builtin.List.listFitsIndex ii) = true := by
   unfold Builtin.List.listFitsIndex;simp;omega
  refine call_meets F.slot_list_insert ⟨_, e, rfl⟩ F.entry_list_insert (F.args_list_insert_3 _ _ _) (AutoSeq1.list_insert_list_int_val_1 l its.toArray n ii t u2 hfit hs) ⟨e, ?_⟩;refine ⟨.non, _, I.lset (its' := its.take i ++ u2 :: its.drop i) hH e ?_ ((zpn r i).append (.cons r2 (zpo r i))) ?_, rfl, q⟩
  ·dsimp only;rw [if_neg (by omega), show ii.toNat = i by omega, Qh, Nat.min_eq_left (by omega)];apply Array.ext';simp;exact W3 (by rw [List.length_drop]; exact Qw _)
  ·rw [Q3, Jh, J8, List.length_drop];omega
 exact fin _ rfl
def zCl (K : PySem.W.Frag) : V -> List V -> Hp -> VK -> Prop := fun x vs H Q => ∃ (l : Addr) (ns : List Int) (k : Int) (j : Nat), x = .ref l /\ vs = [.int k] /\ H l = some (.lst (ns.map V.int)) /\ ns.length < 1000 /\ ns[j]? = some k /\ (∀ m, m < j -> ns[m]? ≠ some k) /\ Q (.int (j : Int)) H
def isK (k : Int) (v : Value) : Bool := match v with | .int a _ => a == k | _ => false
theorem jQ {ns : List Int} {its : List Value} (r : Vals (ns.map V.int) its) {m : Nat} (hm : m < its.length) : ∃ t a, ns[m]? = some a /\ its[m] = .int a t := by
 have hl := r.length;rw [Qj] at hl;have e : (ns.map V.int)[m]? = some (V.int ns[m]) := by rw [Jz, Q9 (by omega)]; rfl
 obtain ⟨u, hu, t, ru⟩ := r.get e;rw [Q9 hm] at hu;exact ⟨t, ns[m], Q9 (by omega), (Option.some.inj hu).trans ru⟩
theorem zqk : MtR X "list.index" (zCl X.K) := by
 intro pins s σ H x vs v us Q I rx rv h;obtain ⟨l, ns, k, j, rfl, rfl, hH, hz, hj, hno, q⟩ := h;cases rx
 obtain ⟨u, rfl, t, rfl⟩ := rv.one;obtain ⟨z, its, n, r, hl, e⟩ := I.lstM hH;rw [Qj] at hl;have jl : j < ns.length := (Qf.mp hj).1;refine call_meets F.slot_list_index ⟨_, e, rfl⟩ F.entry_list_index (F.args_list_index_2 _ _) (MeetsSeq.list_index l its.toArray n (.int k t) (isK k) ?_ j (by rw [Qh]; omega) (by omega) ?_ ?_) ⟨e, ?_⟩
 ·intro y hy;obtain ⟨m, hm, rfl⟩ := List.mem_iff_getElem.mp (show y ∈ its by simpa using hy);obtain ⟨t', a, _, e2⟩ := jQ r hm;rw [e2];exact MeetsSeq.EqGives.int a k t' t
 ·show isK k its[j] = true;obtain ⟨t', a, e1, e2⟩ := jQ r (show j < its.length by omega);rw [e2];rw [hj] at e1;cases e1
  exact beq_self_eq_true k
 ·intro m hm hmj;show isK k its[m] = false;obtain ⟨t', a, e1, e2⟩ := jQ r (show m < its.length by omega);rw [e2];show (a == k) = false;rw [beq_eq_false_iff_ne];intro z;exact hno m hmj (by rw [e1, z])
 ·exact ⟨.int (j : Int), H, I.tok _, ⟨_, rfl⟩, q⟩
end
end L2
namespace L2
open PySem PySem.Spec PyProof.Rows PySem.MeetsSeq
theorem zar {M : Model} {A : Around} {E : Value -> Shared -> Prop} {s : Shared} {β : Type} {n : Nat} (f : Nat -> β -> Sem (ForInStep β)) (I : List Nat -> β -> Shared -> Prop) (Q : β -> Shared -> Prop)
  (turn : ∀ x zal b s, I (x :: zal) b s -> wpAny M A (f x b) (fun r s' => match r with | .yield b' => I zal b' s' | .done b' => Q b' s') E s)
  (fin : ∀ b s, I [] b s -> Q b s) (b : β) (h : I (List.range' 0 n) b s) : wpAny M A (forIn ([:n] : Std.Legacy.Range) b f) Q E s := by
 rw [Std.Legacy.Range.forIn_eq_forIn_range'];have hsz : ([:n] : Std.Legacy.Range).size = n := by simp [Std.Legacy.Range.size]
 show wpAny M A (forIn (List.range' 0 ([:n] : Std.Legacy.Range).size 1) b f) Q E s;rw [hsz];exact wpAny_forIn_list f I Q turn fin _ b h
theorem zit (l : Addr) (items : Array Value) (n : Nat) (dd : Option Addr) (sl : Array (Option Value)) (x : Value) (e : Value -> Bool) (he : ∀ y, y ∈ items -> EqGives y x (e y)) (j : Nat) (hj : j < items.size) (hit : e items[j] = true) (hno : ∀ m (hm : m < items.size), m < j -> e items[m] = false) :
  Meets (Builtin.«tuple.index» ⟨[.ref l, x], []⟩)
   (fun _ R s => s.heap.get? l = some { cls := .type "tuple", dict := dd, data := .seq items n, slots := sl } /\ R (.ok (.ret (.int j s.toks))) { s with toks := s.toks + 1 }) :=
 .of_wp fun prog w A R s h => by
  obtain ⟨hp, g, d, tk, os⟩ := s; obtain ⟨hl, h⟩ := h
  wp_walk using AutoSeq1.wpAny_loadPart' hl, zar _ (fun zal b s' => b = (none, ()) /\ s' = ⟨hp, g, d, tk, os⟩ /\ ∃ i, i <= j /\ zal = List.range' i (items.size - i)) _
  case turn =>
   rintro m zal b s' ⟨rfl, rfl, i, hi, er⟩;rw [show items.size - i = (items.size - i - 1) + 1 by omega, List.range'_succ] at er;injection er with e1 e2;subst e1;have hlt : m < items.size := by omega
   rw [Array.getElem?_eq_getElem hlt];refine Qq (he _ (Array.getElem_mem hlt) prog w _ _ _ _ ?_);by_cases c : m = j
   ·subst c;rw [hit]
    wp_walk
    exact ⟨_, rfl, h⟩
   ·rw [hno m hlt (by omega)]
    wp_walk
    exact ⟨rfl, rfl, m + 1, by omega, by rw [e2]; congr 1⟩
  case fin =>
   rintro b s' ⟨rfl, rfl, i, hi, er⟩;have := congrArg List.length er;simp at this;omega
  case h => exact ⟨rfl, rfl, 0, Jj _, by rw [Nat.min_self]; rfl⟩
section
variable {X : Cx}
def zyd (K : PySem.W.Frag) : V -> List V -> Hp -> VK -> Prop := fun x vs H Q => ∃ (l : Addr) (ns : List Int) (k : Int) (j : Nat), x = .ref l /\ vs = [.int k] /\ SqT K H l (ns.map V.int) /\ ns[j]? = some k /\ (∀ m, m < j -> ns[m]? ≠ some k) /\ Q (.int (j : Int)) H
theorem zqj : MtR X "tuple.index" (zyd X.K) := by
 intro pins s σ H x vs v us Q I rx rv h;obtain ⟨l, ns, k, j, rfl, rfl, hH, hj, hno, q⟩ := h;cases rx
 obtain ⟨u, rfl, t, rfl⟩ := rv.one;obtain ⟨its, r, ⟨o, ho, hc, n, hd⟩, _⟩ := I.tuple hH;obtain ⟨oc, od, dt, sl⟩ := o;have e1 : oc = .type "tuple" := hc;have e2 : dt = .seq its.toArray n := hd;subst e1 e2;have hl : ns.length = its.length := by have := r.length; rwa [Qj] at this
 have jl : j < ns.length := (Qf.mp hj).1;refine call_meets F.slot_tuple_index ⟨_, ho, rfl⟩ F.entry_tuple_index (F.args_tuple_index_2 _ _) (zit l its.toArray n od sl (.int k t) (isK k) ?_ j (by rw [Qh]; omega) ?_ ?_) ⟨ho, ?_⟩
 ·intro y hy;obtain ⟨m, hm, rfl⟩ := List.mem_iff_getElem.mp (show y ∈ its by simpa using hy);obtain ⟨t', a, _, e2⟩ := jQ r hm;rw [e2];exact MeetsSeq.EqGives.int a k t' t
 ·show isK k its[j] = true;obtain ⟨t', a, e1, e2⟩ := jQ r (show j < its.length by omega);rw [e2];rw [hj] at e1;cases e1
  exact beq_self_eq_true k
 ·intro m hm hmj;show isK k its[m] = false;obtain ⟨t', a, e1, e2⟩ := jQ r (show m < its.length by omega);rw [e2];show (a == k) = false;rw [beq_eq_false_iff_ne];intro z;exact hno m hmj (by rw [e1, z])
 ·exact ⟨.int (j : Int), H, I.tok _, ⟨_, rfl⟩, q⟩
end
structure SrcD (K : PySem.W.Frag) (mg : Str -> Option Value) (x : Str) (st : Stmt) (ps : List Str) : Prop where
 ex : ∃ (f T : Addr) (oc : Value) (od : Option Addr) (kV doc pm : Value) (an : Option Addr) (cdv ct : Value) (osl : Array (Option Value)) (o : Obj) (n : Nat),
  K.lookup f = some ⟨oc, od, .func (PySem.W.fnOf x x (yY st) (yW st) (zE st) (.ref T) kV doc pm an cdv ct), osl⟩ /\ PySem.W.codeIn K cdv x = true /\ PySem.W.keepIn K (.ref f) = true /\ mg x = some (.ref f) /\
  K.lookup T = some o /\ o.data = .seq #[.none] n /\
  (∀ us : List Value, us.length = ps.length -> ∃ k : Option (Array Value) -> Sem (List (Str × Value)), bindArgs (PySem.W.fnOf x x (yY st) (yW st) (zE st) (.ref T) kV doc pm an cdv ct) ⟨us, []⟩ = seqItems? (.ref T) >>= k /\ k (some #[.none]) = pure (ps.zip us)) /\
  (∀ us : List Value, us.length + 1 = ps.length -> ∃ k : Option (Array Value) -> Sem (List (Str × Value)), bindArgs (PySem.W.fnOf x x (yY st) (yW st) (zE st) (.ref T) kV doc pm an cdv ct) ⟨us, []⟩ = seqItems? (.ref T) >>= k /\ k (some #[.none]) = pure (ps.zip (us ++ [.none])))
structure zhf (P : Program) (w : World) (K : PySem.W.Frag) (mg : Str -> Option Value) (base : Heap) (k : Nat) (x : Str) (ps : List Str) (sp : Sp) : Prop where
 ex : ∃ f fd, zhe P w K mg base (CXr P w) k f fd ps sp /\ Binds K fd ps [] /\ Binds K fd ps [.none] /\ mg x = some (.ref f) /\ PySem.W.keepIn K (.ref f) = true
theorem SrcD.defX {P : Program} {w : World} {K : PySem.W.Frag} {mg : Str -> Option Value} {base : Heap} {k : Nat} {x : Str} {st : Stmt} {N ps : List Str} {sp : Sp} (S : SrcD K mg x st ps) (sc : zL N ps (zE st)) (len : ∀ vs H Q E, sp vs H Q E -> vs.length = ps.length)
  (hbody : ∀ (f : Addr) (cdv : Value) (A : Around) (outer : List Env) (s : Shared) (H : Hp) (vs : List V) (Q : VK) (E : XK), Room k (A.deeper (envOfC x (zE st) s.heap.objs.size f cdv)) -> sp vs H Q E ->
   ∃ t, PSs (zmn (CXr P w) P w K mg base N x (zE st) f cdv A outer s H E) (yW st) t /\ t { nx := fun _ H' => Q .non H', rt := Q } (start N vs) H) : zhf P w K mg base (k + 1) x ps sp := by
 obtain ⟨f, T, oc, od, kV, doc, pm, an, cdv, ct, osl, o, n, lk, hcd, kp, m, hT, hd, b0, b1⟩ := S.ex;refine ⟨f, _, zBa lk hcd sc len (hbody f cdv), fun s us X hl => ?_, fun s us X hl => ?_, m, kp⟩
 ·rw [Jw] at hl ⊢;obtain ⟨k, e1, e2⟩ := b0 us hl;exact PySem.W.binds_K X rfl hT hd e1 e2
 ·obtain ⟨k, e1, e2⟩ := b1 us (by rw [Q3] at hl; exact hl);exact PySem.W.binds_K X rfl hT hd e1 e2
theorem jL {X : Cx} {k : Nat} {x : Str} {ps : List Str} {sp : Sp} {e : Expr} {es : List Expr} {t : TA} {p pos : Pos} (D : zhf X.prog X.w X.K X.mg X.base k x ps sp) (hr : Room k X.A) (hg : Gl X x) (ha : PA X (e :: es) t)
  (hdb : (x == ("__debug__" : Str)) = false := by decide) (he : starEach (e :: es) X.env = (false, eval e X.env) :: starEach es X.env := by rfl) (hpl : (backTo pos (starEach es X.env)).any (·.1) = false := by rfl) :
  PE X (.Call (.Name x p) (e :: es) [] pos) (zwt sp [] E0 t) := by
 obtain ⟨f, fd, F, b, _, m, kp⟩ := D.ex;exact zok F hr hg m kp b .nil zFj ha hdb he hpl
end L2
namespace L2
open PySem PySem.Spec PyProof.Rows PySem.MeetsSeq
def FzT (H : Hp) (a : Addr) (xs : List V) : Prop := ∃ o : Obj, o.cls = .type "tuple" /\ o.dict = none /\ H a = some (.frz o (.tup xs))
theorem FzT.sq {K : PySem.W.Frag} {H : Hp} {a : Addr} {xs : List V} (h : FzT H a xs) : SqT K H a xs := let ⟨o, _, _, e⟩ := h; .inl (.inr ⟨o, e⟩)
theorem FzT.same {H H' : Hp} {a : Addr} {xs : List V} (h : FzT H a xs) (s : Same H H') : FzT H' a xs := let ⟨o, c, d, e⟩ := h; ⟨o, c, d, s _ _ e⟩
theorem FzT.new {H : Hp} {a : Addr} {xs : List V} {o : Obj} (c : o.cls = .type "tuple") (d : o.dict = none) : FzT (upd H a (.frz o (.tup xs))) a xs := ⟨o, c, d, zC⟩
section
variable {X : Cx}
def zHd (r : V -> List V -> Hp -> VK -> Prop) (to : TE) (t : TA) : TE := fun σ H Q => to σ H fun x H1 => (∃ a xs, x = .ref a /\ FzT H1 a xs) /\ t σ H1 fun xs H2 => r x xs H2 Q
variable {o e : Expr} {es : List Expr} {to : TE} {t : TA} {name : Str} {apos cpos : Pos} {id : String} {r : V -> List V -> Hp -> VK -> Prop}
theorem zCv (pa : PlainAttrs "tuple") (slot : Slot "tuple" name id) (hty : typeOf (.builtin id) = pure (.type "method_descriptor")) (hm : MtR X id r) (ho : PE X o to) (ha : PA X (e :: es) t)
  (hbase : attributeBase o name X.env (eval o X.env) = eval o X.env := by rfl)
  (hfew : ((backTo cpos (starEach (e :: es) X.env)).all (fun x => !x.1) && (backToKw cpos (keywordEach [] X.env)).all (fun x => x.1.isSome)
   && decide ((e :: es).length + ([] : List Keyword).length + (if ([] : List Keyword).isEmpty then 0 else 1) < 30)) = true := by rfl)
  (hline : (apos.endLine == cpos.line) = true := by rfl) (hs : starEach (e :: es) X.env = (false, eval e X.env) :: starEach es X.env := by rfl) (hplain : (backTo cpos (starEach es X.env)).any (·.1) = false := by rfl) :
  PE X (.Call (.Attribute o name apos) (e :: es) [] cpos) (zHd r to t) := by
 intro pins s σ H Q I h;refine wpAny_Call_method_late hbase hfew hline rfl (thn (ho pins s σ H _ I h) fun v s1 ⟨x, H1, I1, r1, ⟨a, xs, ex, ob, oc, od, eH⟩, q1⟩ => ?_);subst ex;have hg : s1.heap.get? a = some ob := (I1.hok a _ eH).1;cases (show v = Value.ref a from r1)
 refine ⟨"tuple", id, pa, slot, hty, ⟨ob, hg, oc⟩, (fun b eb => by cases eb; exact ⟨ob, hg, od⟩), ?_⟩;have hA := ha cpos pins s1 σ H1 _ I1 q1;rw [hs] at hA ⊢;refine Calls.callWith_builtin (by show (false || (backTo cpos (starEach es X.env)).any (·.1)) = false; rw [hplain] <;> rfl) (Calls.evalArgs_plain ?_);exact thn hA fun us s2 ⟨vs, H2, I2, r2, q2⟩ => hm pins s2 σ H2 (.ref a) vs (.ref a) us Q I2 rfl r2 q2
theorem zja : xE X (.type "tuple") (fun xs H Q => ∃ p ys, xs = [.ref p] /\ ((SqL X.K H p ys /\ ∀ l o, o.cls = .type "tuple" -> o.dict = none -> H l = none -> Q (.ref l) (upd H l (.frz o (.tup ys)))) \/ (SqT X.K H p ys /\ Q (.ref p) H))) := by
 intro pins s σ H xs us Q I r h;obtain ⟨p, ys, rfl, h⟩ := h;obtain ⟨u, rfl, rx⟩ := zro r;cases rx
 rcases h with ⟨hq, q⟩ | ⟨hq, q⟩
 ·obtain ⟨its, r', pl, hz⟩ := I.list hq;have hlen := r'.length;refine call_tuple_list pl.isList (fun h' kp => ?_) (by simp only [Qh] <;> lia);have I1 : Inv X pins σ H { s with heap := h' } := I.kept (t' := s.toks) kp;have I2 : Inv X pins σ (upd H h'.objs.size (.frz { cls := .type "tuple", data := .seq its.toArray } (.tup ys))) { s with heap := h'.push { cls := .type "tuple", data := .seq its.toArray } } :=
   I1.laid (t' := s.toks) (fun b o e => Qz _ e) (Qw _) (show ObjOk X.prog X.w _ _ _ (.frz _ (.tup ys)) from ⟨Qb _ rfl, hz, its, r', IsTup.new _ _⟩)
  exact ⟨.ref h'.objs.size, _, I2, rfl, q _ _ rfl rfl (I1.hok.fresh (Qw _))⟩
 ·obtain ⟨its, r', pl, hz⟩ := I.tuple hq;exact call_tuple_same pl ⟨.ref p, H, I, rfl, q⟩
theorem zax (hc : X.calm = true) : xE X (.type "tuple") (fun xs H Q => ∃ (p : Addr) (n : Nat), xs = [.ref p] /\ H p = some (.rng 0 n) /\ n <= 1000 /\ ∀ l o, o.cls = .type "tuple" -> o.dict = none -> H l = none -> Q (.ref l) (upd H l (.frz o (.tup (upN n))))) := by
 intro pins s σ H xs us Q I r h;obtain ⟨p, n, rfl, hp, hn, q⟩ := h;obtain ⟨u, rfl, ru⟩ := Vals.one r;cases (show u = Value.ref p from ru)
 obtain ⟨t1, t2, t3, e⟩ := I.hok p _ hp;refine callType_new F.called_tuple (by decide) (F.typeCall_tuple_1 _) (F.newCall_tuple_1 _) (fun obj => F.args_object_init_2 obj _) F.entry_tuple_new
  (zav p 0 n 1 t1 t2 t3 n (small_one (by decide) (by decide) (by lia) (by lia)) (zAl n) (by lia)) ⟨⟨I.ok.hd hc, e⟩, fun h' tk acc hk hz hacc => ⟨⟨_, Qb _ rfl, rfl⟩, ?_⟩⟩
 have ge : s.heap.objs.size <= h'.objs.size := J9 hz;refine ⟨.ref h'.objs.size, upd H h'.objs.size (.frz { cls := .type "tuple", data := .seq acc } (.tup (upN n))), I.laid (fun b o e => Qz _ (hk b o e)) ge ?_, rfl, q _ _ rfl rfl (I.hok.fresh ge)⟩;refine ⟨Qb _ rfl, by unfold upN; rw [Qj, Jk]; exact Jx hn (by decide), acc.toList, zku hacc, _, Qb _ rfl, rfl, 0, by simp⟩
def zCk (K : PySem.W.Frag) : List V -> Hp -> VK -> Prop := fun xs H Q => ∃ (a p : Addr) (cs ys : List V) (T : String) (b : Bool), xs = [.ref a, .ref p] /\ SqT K H p cs /\ ((H a = some (.lst ys) /\ T = "list") \/ (FzT H a ys /\ T = "tuple")) /\ (∀ us, Vals cs us -> PySem.W.kitAny K (.type T) us = some b) /\ Q (.bl b) H
theorem zmp : xE X (.builtin "isinstance") (zCk X.K) := by
 intro pins s σ H xs us Q I r h;obtain ⟨a, p, cs, ys, T, b, rfl, hp, ha, e, q⟩ := h;obtain ⟨v1, v2, rfl, r1, r2⟩ := Vals.two r;cases (show v1 = Value.ref a from r1)
 cases (show v2 = Value.ref p from r2)
 obtain ⟨its, rv, ⟨o, ho, hc, n, hd⟩, _⟩ := I.tuple hp;obtain ⟨oc, od, dt, sl⟩ := o;have e1 : oc = .type "tuple" := hc;have e2 : dt = .seq its.toArray n := hd;subst e1 e2;rcases ha with ⟨ea, rfl⟩ | ⟨⟨ob, c1, _, ea⟩, rfl⟩
 ·obtain ⟨_, _, n, _, h1⟩ := (show ObjOk X.prog X.w H s.heap a (.lst ys) from I.hok a _ ea);exact PySem.W.kia_tup PySem.W.kitx_list I.kIn ⟨_, h1, rfl⟩ ho (e its rv) (by intro z; cases z) fun tk => ⟨.bl b, H, I.tok _, rfl, q⟩
 ·exact PySem.W.kia_tup PySem.W.kitx_tuple I.kIn ⟨ob, (I.hok a _ ea).1, c1⟩ ho (e its rv) (by intro z; cases z) fun tk => ⟨.bl b, H, I.tok _, rfl, q⟩
end
end L2
namespace HT
open PySem PySem.Spec PyProof.Rows
section
variable {prog : Program} {w : World} {A : Around} {E : Value -> Shared -> Prop} {s : Shared}
end
end HT
namespace L2
open PySem PySem.Spec PyProof.Rows
section
variable {X : Cx}
end
end L2
namespace L2
open PySem PySem.Spec PyProof.Rows
section
open PySem.SeqAt
open PySem.AutoSeq1 (wpAny_loadPart')
open PySem.MeetsSeq PySem.MeetsSeq2 PySem.MeetsSeq3
end
end L2
namespace L2
open PySem PySem.W PyProof.Rows
section
variable {prog : Program} {w : World} {A : Around} {E : Value -> Shared -> Prop} {s : Shared}
end
section
variable {X : Cx}
end
end L2
namespace L2
open PySem PySem.Spec PyProof.Rows
section
variable {env : Env} {C : Addr} {names : List (Str × NameKind)} {x : Str} {d : Addr}
end
section
variable {X : Cx} {scope : Scope} {N' : List Str} {fr : List (Option Nat)} {pins : List (Addr × Obj)} {σ : St} {H : Hp} {s : Shared} {fp : List Addr}
end
section
variable {X : Cx} {scope : Scope} {N' : List Str} {fr : List (Option Nat)} {pins : List (Addr × Obj)} {σ : St} {H : Hp} {s : Shared} {fp : List Addr} {it : Addr} {tn : Nat -> Heap -> Prop} {J : It}
 {elt tg iter : Expr} {ifs : List Expr} {g : TG} {tt : TT} {te : TE} {pos : Pos} {fin : List V -> Hp -> Prop} {W : Nat -> Nat -> List V -> St -> Hp -> Prop} {RR : Value -> Addr -> Result -> Shared -> Prop} {E : Value -> Shared -> Prop}
end
end L2
namespace L2
open PySem PySem.Spec PyProof.Rows PySem.MeetsSeq PySem.AutoSeq1
end L2
namespace L2
open PySem PySem.Spec PyProof.Rows
section
variable {X : Cx}
theorem zrh : xE X (.type "int") (fun xs H Q => ∃ b : Bool, xs = [.bl b] /\ Q (.int (if b = true then 1 else 0)) H) := by
 intro pins s σ H xs us Q I r h;obtain ⟨b, rfl, q⟩ := h;obtain ⟨u, rfl, ru⟩ := Vals.one r;cases (show u = Value.bool b from ru)
 exact call_int_bool ⟨.int _, H, I.kept (t' := s.toks + 1) fun b o e => e, ⟨_, rfl⟩, q⟩
end
def zFh (K : PySem.W.Frag) : List V -> Hp -> VK -> Prop := fun xs H Q => ∃ p ys, xs = [.ref p] /\ (SqL K H p ys \/ SqT K H p ys) /\ Q (.int ys.length) H
def zFi (K : PySem.W.Frag) : List V -> Hp -> VK -> Prop := fun xs H Q => ∃ x c t u b, xs = [x, c] /\ RelV c u /\ zcq K H x t /\ PySem.W.kitOne K t u = some b /\ Q (.bl b) H
def zyb (K : PySem.W.Frag) : List V -> Hp -> VK -> Prop := fun xs H Q => ∃ p ys, xs = [.ref p] /\ ((SqL K H p ys /\ ∀ l, H l = none -> Q (.ref l) (upd H l (.tup ys))) \/ (SqT K H p ys /\ Q (.ref p) H))
def ztl (K : PySem.W.Frag) : List V -> Hp -> VK -> Prop := fun xs H Q => ∃ p ys, xs = [.ref p] /\ (SqL K H p ys \/ SqT K H p ys) /\ ∀ l, H l = none -> Q (.ref l) (upd H l (.lst ys))
theorem zK {A B : TS} {D : zfv} {σ : St} {H : Hp} (h : ∀ M : St -> Hp -> Prop, (∀ σ H, B D σ H -> M σ H) -> A { D with nx := M } σ H) : zGe A B D σ H := h _ fun _ _ z => z
section
variable {X : Cx} (K : PySem.W.Frag)
theorem yS (h : X.K = K := by rfl) : IxR X (zEn K) := h ▸ zyt
theorem yI (h : X.K = K := by rfl) : IxR X (zkb K) := h ▸ zDo
theorem zjt (h : X.K = K := by rfl) : SlR X (zGl K) := h ▸ zxq
theorem znt (h : X.K = K := by rfl) : SlR X (zGk K) := h ▸ zBv
theorem yL (h : X.K = K := by rfl) : xE X (.builtin "len") (zFh K) := h ▸ zgf
theorem zfl (h : X.K = K := by rfl) : xE X (.builtin "isinstance") (zFi K) := h ▸ zjb
theorem yG (h : X.K = K := by rfl) : xE X (.type "tuple") (zyb K) := h ▸ zdw
theorem jT (h : X.K = K := by rfl) : xE X (.type "list") (ztl K) := h ▸ zge
theorem zyh (hu : X.A.units + 66 < cLine) (h : X.K = K := by rfl) : OpR X (compareOp .Eq) (zca K true) := h ▸ zDc hu
theorem vO (hu : X.A.units + 66 < cLine) (h : X.K = K := by rfl) : OpR X (compareOp .NotEq) (zca K false) := h ▸ zDa hu
theorem yM {tg : Expr} (k : Kd) {l : Expr} {tl : TE} (hl : PE X l tl) (h : X.K = K := by rfl) : PI X tg l (zGt k K tl) := h ▸ zCq k hl
theorem wC (n : Nat) {es : List Expr} {k : Nat} {t : TGs} {pos : Pos} (hc : X.calm = true) (h : PGs X es t)
  (hn : (assignEach es X.env).length = n := by rfl) (hst : (assignEach es X.env).findIdx? (·.1) = none := by rfl) (hK : X.K = K := by rfl) : PG X (.Tuple es k pos) (zmi K n t) := hK ▸ zCr hc h hn hst
theorem zcy {elts : List Expr} {x1 : Nat} {tpos : Pos} {l : Expr} {ta : TA} {p pos : Pos} (k : Kd) (hg : Gl X "enumerate") (hm : X.mg "enumerate" = none) (ha : PA X [l] ta) (hs : starEach [l] X.env = [(false, eval l X.env)] := by rfl) (h : X.K = K := by rfl) :
  PI X (.Tuple elts x1 tpos) (.Call (.Name "enumerate" p) [l] [] pos) (zAx k K ta) := h ▸ zyg k hg hm ha hs
end
section
variable {X : Cx}
end
section
variable {X : Cx}
end
section
variable {X : Cx} {m : Str} {apos pos : Pos} {o : Expr} {ta : TE}
end
section
variable {X : Cx}
end
section
variable {X : Cx}
end
end L2
namespace L2
open PySem PySem.W PyProof.Rows
section
variable {X : Cx}
end
end L2
namespace L2
open PySem PySem.W PyProof.Rows
section
variable {prog : Program} {w : World} {A : Around} {E : Value -> Shared -> Prop} {s : Shared}
end
end L2
namespace L2
open PySem PySem.W PyProof.Rows
section
variable {X : Cx}
def zGb (i j : Int) : Prop := 0 < j /\ j.natAbs.log2 < 9000
theorem ztq : OpR X (binaryOp .FloorDiv) (rI zGb fun i j => .int (i / j)) := opI fun i j _ _ _ _ _ hc q => by
 refine floordiv_int (by have := hc.1; lia) ?_ (.inl (PyProof.noPylong_of_log2 hc.2));rw [Int.fdiv_eq_ediv_of_nonneg _ (Int.le_of_lt hc.1)];exact q
theorem zvb {α : Type} [DecidableEq α] (d : α) {l m : List α} {n k : Nat} (hn : n = l.length) (hk : k = m.length) : ((List.range (min n k)).all (fun i => decide (l.getD i d = m.getD i d)) && n == k) = decide (l = m) := by
 subst hn hk;rw [Jp, Q5, Jb, beq_iff_eq, Qc];constructor
 ·rintro ⟨h, e⟩;refine List.ext_getElem e fun i h1 h2 => ?_;have := Jf (h i (Q0.mpr (by lia)))
  simpa [h1, h2] using this
 ·rintro rfl;exact ⟨fun i _ => Q2 rfl, rfl⟩
theorem zzc (i j : Int) : eqV (.int i) (.int j) = decide (i = j) := by
 unfold eqV;rw [Jp, beq_iff_eq, Qc]
end
end L2
namespace L2
open PySem PySem.W PyProof.Rows
section
variable {X : Cx} {pos : Pos}
end
end L2
namespace L2
open PySem PySem.SetTable
def adv (m : Nat) (p : Probe) : Probe :=
 if p.more > 0 then { p with j := p.j + 1, more := p.more - 1 } else
 let (i, perturb) := leap m p.i p.perturb
 { p with j := i, more := runEnd m i - i, i, perturb }
def zBj (m : Nat) (h : Int) : Probe := { j := bits h % (m + 1), more := runEnd m (bits h % (m + 1)) - bits h % (m + 1), i := bits h % (m + 1), perturb := bits h, dummy := none }
def way (m : Nat) (h : Int) : Nat -> Probe
 | 0 => zBj m h
 | n + 1 => adv m (way m h n)
def nx (m i : Nat) : Nat := (i * 5 + 1) % (m + 1)
theorem zAv (P : Nat -> Prop) : ∀ n, P n -> ∃ k, k <= n /\ P k /\ ∀ i, i < k -> ¬ P i := fun n => by
 induction n using Nat.strongRecOn with
 | _ n ih =>
  intro h;by_cases c : ∃ i, i < n /\ P i
  ·obtain ⟨i, hi, q⟩ := c;obtain ⟨k, hk, r⟩ := ih i hi q;exact ⟨k, by lia, r⟩
  ·exact ⟨n, Qw _, h, fun i hi z => c ⟨i, hi, z⟩⟩
end L2
namespace L2
open PySem PySem.SetTable
def lv (m : Nat) (o : Array (Option Nat)) : List (Nat × Nat) := (List.range (m + 1)).filterMap fun j => (o.getD j none).map (j, ·)
end L2
namespace L2
open PySem PySem.SetTable
section
variable {prog : Program} {w : World} {A : Around} {E : Value -> Shared -> Prop} {s : Shared}
end
end L2
namespace L2
open PySem PySem.SetTable
section
variable {prog : Program} {w : World} {A : Around} {E : Value -> Shared -> Prop} {s : Shared} {a b : Addr} {o : Obj} {es : Array (Int × Value)} {ep : Nat} {t : SetTable} {kx : List Int}
end
end L2
namespace L2
open PySem PySem.SetTable PyProof.Rows
section
variable {prog : Program} {w : World} {G : Value -> List Int -> Prop} {A : Around} {E : Value -> Shared -> Prop} {s : Shared} {a b : Addr} {led : Bool} {kss : List (List Int)} {kx : List Int}
end
end L2
namespace L2
open PySem PySem.Spec PyProof.Rows
section
variable {prog : Program} {w : World} {A : Around} {R : Result -> Shared -> Prop} {I : Addr} {fp wr : List Addr} {G : Array GenState -> Array GenState -> Prop} {n : Nat} {P : Nat -> Value -> Prop} {St : Nat -> Shared -> Prop}
end
section
variable {prog : Program} {w : World} {A : Around} {E : Value -> Shared -> Prop} {s : Shared}
set_option maxHeartbeats 8000000 in
end
end L2
namespace L2
open PySem PySem.W PyProof.Rows
section
variable {prog : Program} {w : World} {A : Around} {E : Value -> Shared -> Prop} {s : Shared} {a : Addr} {kss : List (List Int)} {G : Value -> List Int -> Prop}
end
section
variable {X : Cx}
end
end L2
namespace L2
open PySem PySem.W PyProof.Rows
section
variable {X : Cx}
end
end L2
namespace L2
open PySem PySem.W PyProof.Rows
theorem zkq (ns : List Int) : ∀ k, k < ns.length -> argBest (fun i j => decide (ns.getD i 0 < ns.getD j 0)) k <= k /\ ∀ i, i <= k -> ns.getD (argBest (fun i j => decide (ns.getD i 0 < ns.getD j 0)) k) 0 <= ns.getD i 0
 | 0, _ => ⟨Qw _, fun i hi => by rw [show i = 0 by lia]; exact Int.le_refl _⟩
 | k + 1, h => by
  obtain ⟨a, b⟩ := zkq ns k (by lia);show (if decide (ns.getD (k + 1) 0 < ns.getD (argBest (fun i j => decide (ns.getD i 0 < ns.getD j 0)) k) 0) = true then k + 1 else argBest (fun i j => decide (ns.getD i 0 < ns.getD j 0)) k) <= k + 1 /\
   ∀ i, i <= k + 1 -> ns.getD (if decide (ns.getD (k + 1) 0 < ns.getD (argBest (fun i j => decide (ns.getD i 0 < ns.getD j 0)) k) 0) = true then k + 1 else argBest (fun i j => decide (ns.getD i 0 < ns.getD j 0)) k) 0 <= ns.getD i 0
  generalize argBest (fun i j => decide (ns.getD i 0 < ns.getD j 0)) k = m at a b;by_cases g : ns.getD (k + 1) 0 < ns.getD m 0
  ·rw [Q2 g, if_pos rfl];refine ⟨Qw _, fun i hi => ?_⟩;by_cases c : i = k + 1
   ·rw [c]; exact Int.le_refl _
   ·exact Int.le_trans (Int.le_of_lt g) (b i (by lia))
  ·rw [Q8 g, if_neg (by decide)];refine ⟨by lia, fun i hi => ?_⟩;by_cases c : i = k + 1
   ·rw [c]; lia
   ·exact b i (by lia)
section
variable {X : Cx}
def zvt (K : PySem.W.Frag) : List V -> Hp -> VK -> Prop := fun xs H Q => ∃ (p : Addr) (ns : List Int), xs = [.ref p] /\ SqL K H p (ns.map V.int) /\ ns ≠ [] /\ ∀ m ∈ ns, (∀ x ∈ ns, m <= x) -> Q (.int m) H
theorem zmo (hc : X.calm = true) : xE X (.builtin "min") (zvt X.K) := by
 intro pins s σ H xs us Q I r h;obtain ⟨p, ns, rfl, hp, ne, q⟩ := h;obtain ⟨u1, rfl, ru⟩ := Vals.one r;cases (show u1 = Value.ref p from ru)
 obtain ⟨its, rr, t1, _⟩ := I.list hp;have hh : X.A.in1.handled = none := I.ok.hd hc;have hlt : p < s.heap.objs.size := by obtain ⟨_, e, _⟩ := t1.isList; exact Qt e
 have hz : its.toArray.size = ns.length := by have := rr.length; rw [Qj] at this; simp; lia
 have n0 : 0 < ns.length := List.length_pos_iff.mpr ne;refine call_min_walk (wpAny_pyIter_list t1.isList ⟨_, _, _, _, _, _, _, rfl, Walks.list hh _ p (Q7 hlt) its.toArray, ⟨⟨_, Qb _ rfl, rfl, rfl⟩, t1.isList.push _⟩, ?_, by lia, CmpOf.ints_lt (fun i => ns.getD i 0) (fun i v e => zkw rr e), ?_⟩)
 ·intro c hc';show c < (s.heap.push _).objs.size;rw [Heap.size_push];rcases Qs.mp hc' with rfl | hc'
  ·exact Nat.lt_succ_self _
  ·rw [Qx.mp hc']; exact Nat.lt_succ_of_lt hlt
 ·intro v h' tk hP hk;rw [hz] at hP;obtain ⟨t, e⟩ := zkw rr hP;obtain ⟨a, b⟩ := zkq ns (ns.length - 1) (by lia);refine ⟨.int _, H, I.kept (zag hk), ⟨t, e⟩, q _ ?_ fun x hx => ?_⟩
  ·have : argBest (fun i j => decide (ns.getD i 0 < ns.getD j 0)) (ns.length - 1) < ns.length := by lia
   rw [Qd, Q9 this];exact Wc this
  ·obtain ⟨i, hi, rfl⟩ := List.getElem_of_mem hx;have := b i (by lia);have e2 : ns.getD i 0 = ns[i] := by simp [hi]
   rw [e2] at this;exact this
def zAp (K : PySem.W.Frag) : R2 := fun x y H Q => ∃ (a b : Addr) (ks ms : List Int), x = .ref a /\ y = .ref b /\ SqL K H a (ks.map V.int) /\ SqL K H b (ms.map V.int) /\ Q (.bl (decide (ks = ms))) H
theorem zyi (hu : X.A.units + 66 < cLine) : OpR X (compareOp .Eq) (zAp X.K) := by
 intro pins s σ H x y v u Q I rx ry h;obtain ⟨a, b, ks, ms, rfl, rfl, ha, hb, q⟩ := h;cases (show v = Value.ref a from rx)
 cases (show u = Value.ref b from ry)
 obtain ⟨its, r1, t1, _⟩ := I.list ha;obtain ⟨its2, r2, t2, _⟩ := I.list hb;have l1 : its.toArray.size = ks.length := by rw [Qh, <- r1.length, Qj]
 have l2 : its2.toArray.size = ms.length := by rw [Qh, <- r2.length, Qj]
 by_cases c : ks.length = ms.length
 ·refine SeqAt.eq_listAt (e := fun i => decide (ks.getD i 0 = ms.getD i 0)) t1.isList t2.isList (by lia) (by lia) (fun j h1 h2 => ?_) ?_
  ·have i1 : j < ks.length := by lia
   have i2 : j < ms.length := by lia
   obtain ⟨v1, e1, p1⟩ := r1.get (i := j) (x := .int ks[j]) (by simp [i1]);obtain ⟨v2, e2, p2⟩ := r2.get (i := j) (x := .int ms[j]) (by simp [i2]);have w1 : its.toArray[j] = v1 := by have := Qf.mp e1; simpa using this.2
   have w2 : its2.toArray[j] = v2 := by have := Qf.mp e2; simpa using this.2
   rw [w1, w2];have := znj (A := X.A.in1) (s := s) p1 p2 rfl rfl;rw [zzc] at this
   simpa [i1, i2] using this
  ·have := zvb (0 : Int) l1 l2;rw [show min its.toArray.size its2.toArray.size = its.toArray.size by lia, show (its.toArray.size == its2.toArray.size) = true by rw [beq_iff_eq]; lia, Bool.and_true] at this;rw [this];exact ⟨.bl _, H, I, rfl, q⟩
 ·refine SeqAt.eq_list_lengthsAt t1.isList t2.isList (by rw [bne_iff_ne, l1, l2]; exact c) (by lia) ?_;rw [Q8 (fun z => c (by rw [z]))] at q;exact ⟨.bl _, H, I, rfl, q⟩
end
end L2
namespace My
open PySem L2
def top (i : Nat) : Stmt := PySem.Challenge.pw_manycounts_k86_whole_other_one.main.body.getD i (.Pass ⟨0, 0, 0, 0⟩)
abbrev kQ : Stmt := top 7
abbrev zbu : Stmt := top 11
abbrev zho : Stmt := top 13
abbrev zhz : Stmt := top 17
abbrev zsd : Stmt := top 18
abbrev zhq : Stmt := top 19
abbrev zbw : Stmt := top 22
abbrev kR : Stmt := top 24
abbrev zhp : Stmt := top 25
abbrev zbs : Stmt := top 26
abbrev zht : Stmt := top 27
abbrev zhx : Stmt := top 28
abbrev zhv : Stmt := top 29
abbrev zry : Stmt := top 30
abbrev zrs : Stmt := top 12
abbrev zAn : Stmt := top 14
abbrev zrx : Stmt := top 15
abbrev zru : Stmt := top 20
abbrev zhu : Stmt := top 21
abbrev zsa : Stmt := top 33
abbrev zrv : Stmt := top 34
abbrev zhr : Stmt := top 35
abbrev zsb : Stmt := top 36
abbrev sST : Stmt := top 38
abbrev sPW : Stmt := top 39
abbrev zAm : Stmt := top 40
abbrev sAT : Stmt := top 42
abbrev zba : Stmt := top 44
abbrev zaz : Stmt := top 45
abbrev zhs : Stmt := top 46
abbrev zby : Stmt := top 47
abbrev zrz : Stmt := top 48
abbrev zhy : Stmt := top 49
abbrev zib : Stmt := top 50
abbrev jJ : Stmt := top 51
abbrev zbt : Stmt := top 52
abbrev sAt : Stmt := top 54
abbrev zbv : Stmt := top 55
abbrev zbx : Stmt := top 56
abbrev zia : Stmt := top 57
abbrev q8 : Stmt := top 58
abbrev zhw : Stmt := top 59
abbrev zrt : Stmt := top 60
abbrev zrw : Stmt := top 61
abbrev zlx : Stmt := top 62
abbrev zsc : Stmt := top 8
def TieAt (H : Hp) (v : V) (p : Int × Int) : Prop := ∃ a, v = .ref a /\ H a = some (.tup [.int p.1, .int p.2])
theorem TieAt.same {H H' : Hp} {v : V} {p : Int × Int} (h : TieAt H v p) (e : Same H H') : TieAt H' v p := let ⟨a, h1, h2⟩ := h; ⟨a, h1, e _ _ h2⟩
theorem x9 {H H' : Hp} {xs : List V} {ps : List (Int × Int)} (h : Paired (TieAt H) xs ps) (e : Same H H') : Paired (TieAt H') xs ps := L2.Paired.mapP h fun _ _ q => q.same e
def wD (p : Int × Int) : Int × Int := if p.1 <= p.2 then (p.1, p.2) else (p.2, p.1)
structure WebAt (H : Hp) (w : V) (n : Int) (ps : List (Int × Int)) : Prop where
 ex : ∃ c d xs, w = .ref c /\ H c = some (.tup [.int n, .ref d]) /\ H d = some (.tup xs) /\ Paired (TieAt H) xs ps
theorem WebAt.same {H H' : Hp} {w : V} {n : Int} {ps : List (Int × Int)} (h : WebAt H w n ps) (e : Same H H') : WebAt H' w n ps := by
 obtain ⟨c, d, xs, h1, h2, h3, h4⟩ := h.ex;exact ⟨c, d, xs, h1, e _ _ h2, e _ _ h3, x9 h4 e⟩
structure Txt (K : W.Frag) (mg : Str -> Option Value) : Prop where
 isi : mg "isinstance" = none
 int : mg "int" = none
 bool : mg "bool" = none
 len : mg "len" = none
 tuple : mg "tuple" = none
 all : mg "all" = none
 list : mg "list" = none
 min : mg "min" = none
 max : mg "max" = none
 range : mg "range" = none
 set : mg "set" = none
 sorted : mg "sorted" = none
theorem gE : bootBuiltins "isinstance" = some (.builtin "isinstance") := by first | rfl | decide +kernel
theorem zfo : bootBuiltins "int" = some (.type "int") := by first | rfl | decide +kernel
theorem zms : bootBuiltins "bool" = some (.type "bool") := by first | rfl | decide +kernel
theorem yH : bootBuiltins "tuple" = some (.type "tuple") := by first | rfl | decide +kernel
theorem w5 : bootBuiltins "list" = some (.type "list") := by first | rfl | decide +kernel
theorem zrl : bootBuiltins "all" = some (.builtin "all") := by first | rfl | decide +kernel
theorem zfn : bootBuiltins "min" = some (.builtin "min") := by first | rfl | decide +kernel
theorem zrj : bootBuiltins "max" = some (.builtin "max") := by first | rfl | decide +kernel
theorem xT : bootBuiltins "sorted" = some (.builtin "sorted") := by first | rfl | decide +kernel
def InN (n : Int) (p : Int × Int) : Prop := 0 <= p.1 /\ p.1 < n /\ 0 <= p.2 /\ p.2 < n
theorem jN (a n : Int) (h : 0 < n) : 0 <= a % n /\ a % n < n := ⟨Int.emod_nonneg _ (by lia), Int.emod_lt_of_pos _ h⟩
theorem zzw (ns : List Int) (lo hi : Option Int) : ∃ ms : List Int, zbh (ns.map V.int) lo hi = ms.map V.int /\ ms.length <= ns.length := by
 refine ⟨(ns.drop (HT.sIx (ns.map V.int).length 0 lo)).take (HT.sIx (ns.map V.int).length (ns.map V.int).length hi - HT.sIx (ns.map V.int).length 0 lo), ?_, ?_⟩
 ·unfold zbh;rw [List.map_take, List.map_drop]
 ·rw [J8, List.length_drop]; lia
def ups (n : Int) : List Int := (List.range n.toNat).map fun (i : Nat) => (i : Int)
theorem zgi (n : Nat) : upN n = (ups n).map V.int := by
 unfold upN ups;rw [Wr, Q4];rfl
def at0 (l : List Int) (i : Int) : Int := l.getD i.toNat 0
def xW (hs : List Int) (p : Int × Int) : List Int :=
 hs.map fun h => if h = (if at0 hs p.2 > at0 hs p.1 then at0 hs p.2 else at0 hs p.1) then (if at0 hs p.2 < at0 hs p.1 then at0 hs p.2 else at0 hs p.1) else h
def yE (ps : List (Int × Int)) (k : Int) : Int × Int := ps.getD k.toNat (0, 0)
def hdF (ps : List (Int × Int)) (hs : List Int) (ks : List Int) : List Int := ks.foldl (fun hs k => xW hs (yE ps k)) hs
def zbm (st : List Int × Int) (p : Int × Int) : List Int × Int :=
 if at0 st.1 p.1 = at0 st.1 p.2 then st else (st.1.map fun m => if m = at0 st.1 p.2 then at0 st.1 p.1 else m, st.2 + 1)
def rkF (ps : List (Int × Int)) (st : List Int × Int) (ks : List Int) : List Int × Int := ks.foldl (fun st k => zbm st (yE ps k)) st
def rk (n : Int) (ps : List (Int × Int)) (ks : List Int) : Int := (rkF ps (ups n, 0) ks).2
theorem zfi (u v : Int) (huv : u ≠ v) : ∀ l : List Int, dcr (l.map fun x => if x = v then u else x) + (if u ∈ l /\ v ∈ l then 1 else 0) = dcr l
 | [] => by simp [dcr]
 | x :: xs => by
  have ih := zfi u v huv xs;have mem : ∀ z, z ≠ v -> (z ∈ xs.map (fun x => if x = v then u else x) ↔ z ∈ xs \/ (z = u /\ v ∈ xs)) := by
   intro z hz;rw [Ql];constructor
   ·rintro ⟨y, hy, e⟩;by_cases hyv : y = v
    ·rw [if_pos hyv] at e;exact .inr ⟨e.symm, hyv ▸ hy⟩
    ·rw [if_neg hyv] at e;exact .inl (e ▸ hy)
   ·rintro (h | ⟨rfl, h⟩)
    ·exact ⟨z, h, if_neg hz⟩
    ·exact ⟨v, h, if_pos rfl⟩
  rw [Qm];show dcr (xs.map fun x => if x = v then u else x) + (if (if x = v then u else x) ∈ xs.map (fun x => if x = v then u else x) then 0 else 1) + _ = dcr xs + if x ∈ xs then 0 else 1;generalize hd : dcr (xs.map fun x => if x = v then u else x) = d at ih;generalize hd2 : dcr xs = d2 at ih;by_cases hxv : x = v
  ·subst hxv;rw [if_pos rfl];have m := mem u huv;by_cases h1 : u ∈ xs <;> by_cases h2 : x ∈ xs <;> simp [m, h1, h2, huv] at ih ⊢ <;> lia
  ·rw [if_neg hxv];have m := mem x hxv;by_cases hxu : x = u
   ·subst hxu;by_cases h1 : x ∈ xs <;> by_cases h2 : v ∈ xs <;> simp [m, h1, h2, Ne.symm huv] at ih ⊢ <;> lia
   ·have e1 : ¬ (u = x) := fun z => hxu z.symm;have e2 : ¬ (v = x) := fun z => hxv z.symm;by_cases h1 : u ∈ xs <;> by_cases h2 : v ∈ xs <;> by_cases h3 : x ∈ xs <;> simp [m, h1, h2, h3, e1, e2, hxu] at ih ⊢ <;> lia
theorem kC {u v : Int} (huv : u ≠ v) {l : List Int} (h1 : u ∈ l) (h2 : v ∈ l) : xI (l.map fun x => if x = v then u else x) + 1 = xI l := by
 unfold xI;rw [<- List.map_reverse];have := zfi u v huv l.reverse;rw [if_pos ⟨Jl.mpr h1, Jl.mpr h2⟩] at this;exact this
def Rel (n : Nat) (hs ms : List Int) : Prop := ∀ i j, i < n -> j < n -> (hs.getD i 0 = hs.getD j 0 ↔ ms.getD i 0 = ms.getD j 0)
theorem qX {l : List Int} {f : Int -> Int} {i : Nat} (h : i < l.length) : (l.map f).getD i 0 = f (l.getD i 0) := by simp [List.getD, h]
theorem zdf {l : List Int} {i : Nat} (h : i < l.length) : l.getD i 0 ∈ l := by simp [List.getD, h]
theorem jY {hs : List Int} {p : Int × Int} (h : at0 hs p.1 = at0 hs p.2) : xW hs p = hs := by
 unfold xW;rw [h];have e : (fun x : Int => if x = (if at0 hs p.2 > at0 hs p.2 then at0 hs p.2 else at0 hs p.2) then (if at0 hs p.2 < at0 hs p.2 then at0 hs p.2 else at0 hs p.2) else x) = id := by
  funext x
  show _ = x;split <;> simp_all
 rw [e, List.map_id]
theorem zjl {hs : List Int} {p : Int × Int} (h : at0 hs p.1 ≠ at0 hs p.2) : ∃ u v, u ≠ v /\ xW hs p = hs.map (fun x => if x = v then u else x) /\ ((u = at0 hs p.1 /\ v = at0 hs p.2) \/ (u = at0 hs p.2 /\ v = at0 hs p.1)) := by
 unfold xW;by_cases hlt : at0 hs p.2 < at0 hs p.1
 ·refine ⟨at0 hs p.2, at0 hs p.1, fun z => h z.symm, ?_, .inr ⟨rfl, rfl⟩⟩;rw [if_neg (by lia), if_pos hlt]
 ·have : at0 hs p.2 > at0 hs p.1 := by lia
  refine ⟨at0 hs p.1, at0 hs p.2, h, ?_, .inl ⟨rfl, rfl⟩⟩;rw [if_pos this, if_neg hlt]
theorem wW (p : Int × Int) : (wD p).1 = p.1 /\ (wD p).2 = p.2 \/ (wD p).1 = p.2 /\ (wD p).2 = p.1 := by
 unfold wD;split
 ·exact .inl ⟨rfl, rfl⟩
 ·exact .inr ⟨rfl, rfl⟩
theorem zkm {u v x y : Int} (huv : u ≠ v) : ((if x = v then u else x) = (if y = v then u else y)) ↔ (x = y \/ ((x = u \/ x = v) /\ (y = u \/ y = v))) := by
 split <;> split <;> lia
theorem zsx {n : Nat} {hs ms : List Int} {c : Int} {p : Int × Int} (lh : hs.length = n) (lm : ms.length = n) (R : Rel n hs ms) (hc : c + (xI hs : Int) = n) (hp : InN n p) :
  (xW hs (wD p)).length = n /\ (zbm (ms, c) p).1.length = n /\ Rel n (xW hs (wD p)) (zbm (ms, c) p).1 /\ (zbm (ms, c) p).2 + (xI (xW hs (wD p)) : Int) = n := by
 obtain ⟨p1, p2, p3, p4⟩ := hp;have a1 : p.1.toNat < n := by lia
 have a2 : p.2.toNat < n := by lia
 have r12 := R p.1.toNat p.2.toNat a1 a2;have swap : at0 hs (wD p).1 = at0 hs (wD p).2 ↔ at0 hs p.1 = at0 hs p.2 := by
  rcases wW p with ⟨e1, e2⟩ | ⟨e1, e2⟩ <;> rw [e1, e2];exact eq_comm
 by_cases he : at0 hs p.1 = at0 hs p.2
 ·have em : at0 ms p.1 = at0 ms p.2 := r12.mp he;have e1 : xW hs (wD p) = hs := jY (swap.mpr he);have e2 : zbm (ms, c) p = (ms, c) := by unfold zbm; exact if_pos em
  rw [e1, e2];exact ⟨lh, lm, R, hc⟩
 ·have em : ¬ at0 ms p.1 = at0 ms p.2 := fun z => he (r12.mpr z);have e2 : zbm (ms, c) p = (ms.map (fun m => if m = at0 ms p.2 then at0 ms p.1 else m), c + 1) := by unfold zbm; exact if_neg em
  obtain ⟨u, v, huv, e1, hu⟩ := zjl (hs := hs) (p := wD p) (fun z => he (swap.mp z));have hu' : (u = at0 hs p.1 /\ v = at0 hs p.2) \/ (u = at0 hs p.2 /\ v = at0 hs p.1) := by
   rcases wW p with ⟨f1, f2⟩ | ⟨f1, f2⟩ <;> rw [f1, f2] at hu
   ·exact hu
   ·exact hu.symm
  have m1 : at0 hs p.1 ∈ hs := zdf (by lia);have m2 : at0 hs p.2 ∈ hs := zdf (by lia);have mu : u ∈ hs := by rcases hu' with ⟨z, _⟩ | ⟨z, _⟩ <;> rw [z] <;> assumption
  have mv : v ∈ hs := by rcases hu' with ⟨_, z⟩ | ⟨_, z⟩ <;> rw [z] <;> assumption
  rw [e1, e2];refine ⟨by rw [Qj]; exact lh, by rw [Qj]; exact lm, fun i j hi hj => ?_, ?_⟩
  ·rw [qX (by lia), qX (by lia), qX (by lia), qX (by lia), zkm huv, zkm em];have ri := R i p.1.toNat hi a1;have ri2 := R i p.2.toNat hi a2;have rj := R j p.1.toNat hj a1;have rj2 := R j p.2.toNat hj a2;have rij := R i j hi hj;have ti : (hs.getD i 0 = u \/ hs.getD i 0 = v) ↔ (ms.getD i 0 = at0 ms p.1 \/ ms.getD i 0 = at0 ms p.2) := by
    rcases hu' with ⟨z1, z2⟩ | ⟨z1, z2⟩
    ·rw [z1, z2]; exact or_congr ri ri2
    ·rw [z1, z2]; exact (or_congr ri2 ri).trans or_comm
   have tj : (hs.getD j 0 = u \/ hs.getD j 0 = v) ↔ (ms.getD j 0 = at0 ms p.1 \/ ms.getD j 0 = at0 ms p.2) := by
    rcases hu' with ⟨z1, z2⟩ | ⟨z1, z2⟩
    ·rw [z1, z2]; exact or_congr rj rj2
    ·rw [z1, z2]; exact (or_congr rj2 rj).trans or_comm
   exact or_congr rij (and_congr ti tj)
  ·have := kC huv mu mv;show c + 1 + (xI (hs.map fun x => if x = v then u else x) : Int) = n;lia
theorem jG {n : Int} {ps : List (Int × Int)} {k : Int} (hb : ∀ p ∈ ps, InN n p) (k0 : 0 <= k) (kl : k < ps.length) : InN n (yE ps k) := by
 have : k.toNat < ps.length := by lia
 unfold yE;refine hb _ ?_;simp [List.getD, this]
theorem zes {ps : List (Int × Int)} {k : Int} (k0 : 0 <= k) (kl : k < ps.length) : yE (ps.map wD) k = wD (yE ps k) := by
 have : k.toNat < ps.length := by lia
 unfold yE;simp [List.getD, this]
theorem zny {n : Nat} {ps : List (Int × Int)} (hb : ∀ p ∈ ps, InN n p) : ∀ (ks : List Int), (∀ k ∈ ks, 0 <= k /\ k < ps.length) -> ∀ (hs ms : List Int) (c : Int), hs.length = n -> ms.length = n -> Rel n hs ms -> c + (xI hs : Int) = n ->
  (rkF ps (ms, c) ks).2 + (xI (hdF (ps.map wD) hs ks) : Int) = n
 | [], _, hs, ms, c, _, _, _, hc => hc
 | k :: ks, hk, hs, ms, c, lh, lm, R, hc => by
  obtain ⟨k0, kl⟩ := hk k Qk;obtain ⟨s1, s2, s3, s4⟩ := zsx lh lm R hc (jG hb k0 kl);have := zny hb ks (fun j hj => hk j (Qy _ hj)) _ _ _ s1 s2 s3 s4;rw [<- zes k0 kl] at this;exact this
theorem yP (n : Int) : (ups n).length = n.toNat := by unfold ups; simp
theorem zGn {n : Int} (h1 : 1 <= n) (h9 : n <= 9) : n = 1 \/ n = 2 \/ n = 3 \/ n = 4 \/ n = 5 \/ n = 6 \/ n = 7 \/ n = 8 \/ n = 9 := by lia
theorem zvd {n : Int} (h1 : 1 <= n) (h9 : n <= 9) : (xI (ups n) : Int) = n := by
 rcases zGn h1 h9 with rfl | rfl | rfl | rfl | rfl | rfl | rfl | rfl | rfl <;> decide +kernel
theorem zya {n : Int} {ps : List (Int × Int)} {ks : List Int} (h1 : 1 <= n) (h9 : n <= 9) (hb : ∀ p ∈ ps, InN n p) (hk : ∀ k ∈ ks, 0 <= k /\ k < ps.length) : n - (xI (hdF (ps.map wD) (ups n) ks) : Int) = rk n ps ks := by
 have e : ((n.toNat : Nat) : Int) = n := by lia
 have := zny (n := n.toNat) (ps := ps) (by rw [e]; exact hb) ks hk (ups n) (ups n) 0 (yP n) (yP n) (fun i j _ _ => Iff.rfl) (by rw [zvd h1 h9]; lia);unfold rk;lia
theorem zpu (hs : List Int) (p : Int × Int) : (xW hs p).length = hs.length := by unfold xW; simp
theorem zkz (ps : List (Int × Int)) (hs ks : List Int) (k : Int) : hdF ps hs (ks ++ [k]) = xW (hdF ps hs ks) (yE ps k) := by unfold hdF; rw [List.foldl_append]; rfl
theorem gX (ps : List (Int × Int)) : ∀ (ks hs : List Int), (hdF ps hs ks).length = hs.length
 | [], _ => rfl
 | k :: ks, hs => by
  show (hdF ps (xW hs (yE ps k)) ks).length = _;rw [gX ps ks, zpu]
theorem qS : bootBuiltins "range" = some (.type "range") := by first | rfl | decide +kernel
theorem zfm : bootBuiltins "set" = some (.type "set") := by first | rfl | decide +kernel
theorem zug {k : Kd} {K : W.Frag} {a : Addr} {xs : List V} {g : TG} {tb : TS} {D : zfv} {σ : St} {H : Hp} (Pv : Nat -> St -> Hp -> Prop) (h0 : Pv 0 σ H) (hl : ∀ i σ H, i <= xs.length -> Pv i σ H -> SqK k K H a xs)
  (hs : ∀ (i : Nat) (x : V) (σ : St) (H : Hp), xs[i]? = some x -> Pv i σ H -> g x σ H fun σ2 H2 => tb { D with nx := Pv (i + 1), ct := Pv (i + 1), bk := D.nx } σ2 H2) (hd : ∀ σ H, Pv xs.length σ H -> D.nx σ H) :
  ∃ W : Nat -> Nat -> St -> Hp -> Prop, (∃ m, W 0 m σ H) /\ ∀ i m σ H, W i m σ H ->
   ((ItK k K a).stop i H /\ D.nx σ H) \/ ((ItK k K a).go i H /\ ∃ N : St -> Hp -> Prop, (∀ σ' H', N σ' H' -> ∃ m', m' < m /\ W (i + 1) m' σ' H') /\ ∀ x H', (ItK k K a).yld i H x H' -> g x σ H' fun σ2 H2 => tb { D with nx := N, ct := N, bk := D.nx } σ2 H2) := by
 refine ⟨fun i m σ H => m = xs.length - i /\ i <= xs.length /\ Pv i σ H, ⟨xs.length, by simp, Jj _, h0⟩, ?_⟩;rintro i m σ H ⟨rfl, hi, p⟩;have q := hl i σ H hi p;by_cases hlt : i < xs.length
 ·refine .inr ⟨zwi q hlt, Pv (i + 1), fun σ' H' p' => ⟨xs.length - (i + 1), by lia, rfl, hlt, p'⟩, fun x H' y => ?_⟩;obtain ⟨e, hy2⟩ := zov q y;subst e;exact hs i x σ H' hy2 p
 ·have e : i = xs.length := by lia
  subst e;exact .inl ⟨zkt q (Qw _), hd σ H p⟩
theorem zir {l : List Int} {i : Int} (h0 : 0 <= i) (hl : i < l.length) : atI (l.map V.int) i = some (.int (at0 l i)) := by
 obtain ⟨j, rfl⟩ := Wb h0;have hj : j < l.length := by lia
 refine yC ?_;unfold at0;simp [List.getD, hj]
theorem zwp {H : Hp} {xs : List V} {ps : List (Int × Int)} (h : Paired (TieAt H) xs ps) {k : Int} (h0 : 0 <= k) (hl : k < ps.length) : ∃ c, atI xs k = some (.ref c) /\ H c = some (.tup [.int (yE ps k).1, .int (yE ps k).2]) := by
 obtain ⟨j, rfl⟩ := Wb h0;have xl := Paired.length h;have hj : j < xs.length := by lia
 obtain ⟨p, e1, c, e2, e3⟩ := Paired.at h (show xs[j]? = some xs[j] by simp [hj]);refine ⟨c, yC (by rw [Q9 hj, e2]), ?_⟩;have : yE ps (j : Int) = p := by
  unfold yE;rw [Q4, Qd, e1];rfl
 rw [this];exact e3
def Ks (m : Nat) (ks : List Int) : Prop := ∀ k ∈ ks, 0 <= k /\ k < (m : Int)
def gK (K : W.Frag) : Sp := fun vs H Q _ => ∃ (wv : V) (pk : Addr) (n : Int) (ps : List (Int × Int)) (ks : List Int), vs = [wv, .ref pk] /\ WebAt H wv n ps /\ 1 <= n /\ n <= 9 /\ (∀ p ∈ ps, InN n p) /\ SqT K H pk (ks.map V.int) /\ Ks ps.length ks /\
 ∀ l H', Same H H' -> H' l = some (.lst ((hdF ps (ups n) ks).map V.int)) -> Q (.ref l) H'
theorem xF {n : Nat} (h : n <= 10) : n < sizeLine := Js h (by decide)
section
variable {P : Program} {w : World} {K : W.Frag} {mg : Str -> Option Value} {base : Heap}
theorem scHeads : zL ["web", "pick", "heads", "k", "tie", "low", "high"] ["web", "pick"] (zE zhz) := ⟨rfl, rfl, rfl, by decide +kernel, rfl, by decide +kernel, by decide +kernel⟩
theorem nd3 : (["head", "high", "low"] : List Str).Nodup := by decide +kernel
theorem zzs (T : Txt K mg) (S : Src K mg "heads_of" zhz ["web", "pick"]) : Def P w K mg base 1 "heads_of" ["web", "pick"] (gK K) := by
 refine S.def scHeads (fun vs H Q E h => ?_) (fun f cdv A outer s H vs Q E hr h => ?_)
 ·obtain ⟨_, _, _, _, _, rfl, _⟩ := h; rfl
 ·obtain ⟨wv, pk, n, ps, ks, rfl, W, n1, n9, hb, hk, hks, q⟩ := h;obtain ⟨c, d, xs, rfl, hc, hd, ht⟩ := W.ex;obtain ⟨m, rfl⟩ := Wb (show 0 <= n by lia);refine ⟨_, zD (zJ (i := 2) scHeads.nd rfl (Or.inl rfl) (zY (jS rfl) rfl T.list w5 (zA (zY qR rfl T.range qS (zA (yO (yI K) (pv 0) zF (fun _ _ => rfl)) zB)) zB)))
   (zD (wG PassesOwn.never rfl (yM K .t (pv 1)) (zI (i := 3) scHeads.nd rfl (Or.inl rfl))
    (zD (zJ (i := 4) scHeads.nd rfl (Or.inl rfl) (yO (yI K) (yO (yI K) (pv 0) zF (fun _ _ => rfl)) (pv 3) (fun _ _ => rfl)))
    (zD (zJ (i := 5) scHeads.nd rfl (Or.inr rfl) (zN (zrf rfl) (by rfl) T.min zfn (zA (yO (yS K) (pv 2) (yO (yI K) (pv 4) zF (fun _ _ => rfl)) (fun _ _ => rfl)) (zA (yO (yS K) (pv 2) (yO (yI K) (pv 4) zF (fun _ _ => rfl)) (fun _ _ => rfl)) zB))))
    (zD (zJ (i := 6) scHeads.nd rfl (Or.inr rfl) (zN (zrg rfl) (by rfl) T.max zrj (zA (yO (yS K) (pv 2) (yO (yI K) (pv 4) zF (fun _ _ => rfl)) (fun _ _ => rfl)) (zA (yO (yS K) (pv 2) (yO (yI K) (pv 4) zF (fun _ _ => rfl)) (fun _ _ => rfl)) zB))))
    (zG (v9 (i := 2) scHeads.nd rfl (Or.inl rfl) (N' := ["head", "high", "low"]) (fr := [none, some 6, some 5]) (zS (by rfl)) rfl (yM K .l (pv 2))
     (fun _ _ _ _ => zI (i := 0) nd3 rfl (Or.inl rfl) (Or.inr rfl)) (fun _ _ _ _ => xA)
     (fun _ _ _ _ => kZ (yF qL (pv 0) (pv 1) (yQ _)) (pv 2) (pv 0))))))))
   (zG (zO (pv 2)))), ?_⟩
  have i0 : atI ([.int m, .ref d] : List V) 0 = some (.int m) := yC (j := 0) rfl;have i1 : atI ([.int m, .ref d] : List V) 1 = some (.ref d) := yC (j := 1) rfl;refine ⟨_, rfl, c, _, _, _, rfl, rfl, SqT.of hc, i0, _, rfl, fun p hp => ⟨p, m, rfl, zC, by lia, fun l hl => ?_⟩⟩;have s1 := (Same.new (o := HO.rng 0 m) hp).trans (Same.new (o := HO.lst (upN m)) hl);have hl1 : (upd (upd H p (.rng 0 m)) l (.lst (upN m))) l = some (.lst ((ups m).map V.int)) := by rw [zC, zgi]
  generalize upd (upd H p (.rng 0 m)) l (.lst (upN m)) = H1 at s1 hl1 ⊢;refine ⟨_, rfl, pk, rfl, ⟨_, s1.tup hk⟩, zug (k := .t) (K := K) (a := pk) (xs := ks.map V.int) (fun i σ H' => ∃ l u v t r, σ = [some (.ref c), some (.ref pk), some (.ref l), u, v, t, r] /\ Same H H' /\ H' l = some (.lst ((hdF ps (ups m) (ks.take i)).map V.int))) ⟨l, _, _, _, _, rfl, s1, hl1⟩ (fun i σ H' _ ⟨_, _, _, _, _, _, z, _⟩ => z.tup hk) ?_ ?_⟩
  ·rintro i x σ H' hx ⟨l, u, v, t, r, rfl, sm, hl⟩;obtain ⟨k, ek, rfl⟩ : ∃ k, ks[i]? = some k /\ V.int k = x := by
    rw [Jz] at hx;cases e : ks[i]? with
    | none => rw [e] at hx; simp at hx
    | some k => rw [e] at hx; simp at hx; exact ⟨k, rfl, hx⟩
   obtain ⟨k0, kl⟩ := hks k (Jq ek);obtain ⟨tc, et, htc⟩ := zwp ht k0 kl;obtain ⟨b1, b2, b3, b4⟩ := jG hb k0 kl;generalize hhs : hdF ps (ups m) (ks.take i) = hs at hl;have hsl : hs.length = m := by rw [<- hhs, gX, yP]; simp
   have t0 : atI ([.int (yE ps k).1, .int (yE ps k).2] : List V) 0 = some (.int (yE ps k).1) := yC (j := 0) rfl;have t1 : atI ([.int (yE ps k).1, .int (yE ps k).2] : List V) 1 = some (.int (yE ps k).2) := yC (j := 1) rfl;have a0 := zir (l := hs) (i := (yE ps k).1) b1 (by lia);have a1 := zir (l := hs) (i := (yE ps k).2) b3 (by lia);have htc' := sm _ _ htc;dsimp only [yB, List.set];refine ⟨_, rfl, c, _, _, _, rfl, rfl, SqT.of (sm _ _ hc), i1, _, rfl, d, _, _, _, rfl, rfl, SqT.of (sm _ _ hd), et, ?_⟩;refine ⟨_, rfl, _, rfl, tc, _, _, _, rfl, rfl, SqT.of htc', t0, l, _, _, _, rfl, rfl, SqL.of hl, a0, _, rfl, _, rfl, tc, _, _, _, rfl, rfl, SqT.of htc', t1, l, _, _, _, rfl, rfl, SqL.of hl, a1, _, _, rfl, ?_⟩;refine ⟨_, rfl, _, rfl, tc, _, _, _, rfl, rfl, SqT.of htc', t0, l, _, _, _, rfl, rfl, SqL.of hl, a0, _, rfl, _, rfl, tc, _, _, _, rfl, rfl, SqT.of htc', t1, l, _, _, _, rfl, rfl, SqL.of hl, a1, _, _, rfl, ?_⟩;generalize hlow : (if at0 hs (yE ps k).2 < at0 hs (yE ps k).1 then at0 hs (yE ps k).2 else at0 hs (yE ps k).1) = low;generalize hhigh : (if at0 hs (yE ps k).2 > at0 hs (yE ps k).1 then at0 hs (yE ps k).2 else at0 hs (yE ps k).1) = high;refine ⟨_, rfl, l, rfl, ⟨_, SqL.of hl⟩, yX (k := .l) (a := l) (xs := hs.map V.int) (fun σ => ∃ v, σ = [v, some (.int high), some (.int low)]) (fun j ys H2 => H2 = H' /\ ys = (hs.take j).map fun h => V.int (if h = high then low else h)) ⟨_, rfl⟩ ⟨rfl, rfl⟩ (by rw [Qj]; exact xF (by lia)) (fun j ys H2 _ z => SqL.of (by rw [z.1]; exact hl)) ?_ ?_⟩
   ·rintro j x ys σ H2 N hx ⟨u, rfl⟩ ⟨rfl, rfl⟩ hN;obtain ⟨h0, eh, rfl⟩ : ∃ h0, hs[j]? = some h0 /\ V.int h0 = x := by
     rw [Jz] at hx;cases e : hs[j]? with
     | none => rw [e] at hx; simp at hx
     | some k => rw [e] at hx; simp at hx; exact ⟨k, rfl, hx⟩
    dsimp only [yB, List.set];refine zbk ?_;refine ⟨_, rfl, _, rfl, rfl, _, rfl, ?_⟩;by_cases he : h0 = high
    ·rw [Q2 (show V.int h0 = V.int high by rw [he])];refine jP ⟨_, rfl, ?_⟩;refine hN _ _ _ ⟨_, rfl⟩ ⟨rfl, ?_⟩ (by simp);rw [zM eh, Qu, Qm, List.map_nil, if_pos he]
    ·rw [Q8 (show ¬ V.int h0 = V.int high from fun z => he (by injection z))];refine wL ⟨_, rfl, ?_⟩;refine hN _ _ _ ⟨_, rfl⟩ ⟨rfl, ?_⟩ (by simp);rw [zM eh, Qu, Qm, List.map_nil, if_neg he]
   ·rintro ys H2 ⟨rfl, rfl⟩ p2 hp2;refine ⟨p2, _, _, _, _, rfl, sm.trans (Same.new hp2), ?_⟩;rw [zC, zM ek, zkz, hhs];unfold xW;rw [hlow, hhigh, Qj, Q6, Wr];rfl
  ·rintro σ H' ⟨l, u, v, t, r, rfl, sm, hl⟩;rw [Qj, Q6] at hl;exact ⟨_, rfl, q l H' sm hl⟩
end
def zhk : Sp := fun vs H Q _ => ∃ (wv : V) (n : Int) (ps : List (Int × Int)), vs = [wv] /\ WebAt H wv n ps /\ ps.length <= 8 /\ ∀ t H', Same H H' -> FzT H' t ((ups ps.length).map V.int) -> Q (.ref t) H'
section
variable {P : Program} {w : World} {K : W.Frag} {mg : Str -> Option Value} {base : Heap}
theorem zHg : zL ["web"] ["web"] (zE zho) := ⟨rfl, rfl, rfl, by decide +kernel, rfl, by decide +kernel, by decide +kernel⟩
theorem zId (T : Txt K mg) (S : Src K mg "whole_pick" zho ["web"]) : Def P w K mg base 1 "whole_pick" ["web"] zhk := by
 refine S.def zHg (fun vs H Q E h => ?_) (fun f cdv A outer s H vs Q E hr h => ?_)
 ·obtain ⟨i, _, _, rfl, _⟩ := h; rfl
 ·obtain ⟨wv, n, ps, rfl, W, hl8, q⟩ := h;obtain ⟨c, d, xs, rfl, hc, hd, ht⟩ := W.ex;have xl : xs.length = ps.length := Paired.length ht;refine ⟨_, zG (zO (zY (zax rfl) rfl T.tuple yH (zA (zY qR rfl T.range qS (zA (zN (yL K) (by rfl) T.len PySem.boot_len (zA (yO (yI K) (pv 0) zF (fun _ _ => rfl)) zB)) zB)) zB))), ?_⟩;have i1 : atI ([.int n, .ref d] : List V) 1 = some (.ref d) := yC (j := 1) rfl;refine ⟨_, rfl, c, _, _, _, rfl, rfl, SqT.of hc, i1, d, xs, rfl, .inr (SqT.of hd), _, rfl, fun p hp => ⟨p, xs.length, rfl, zC, by lia, fun l o oc od hl => ?_⟩⟩;refine q l _ ((Same.new hp).trans (Same.new hl)) ?_;rw [zgi, xl];exact FzT.new oc od
end
def zdl (K : W.Frag) : Sp := fun vs H Q _ => ∃ (wv : V) (pk : Addr) (n : Int) (ps : List (Int × Int)) (ks : List Int), vs = [wv, .ref pk] /\ WebAt H wv n ps /\ 1 <= n /\ n <= 9 /\ (∀ p ∈ ps, InN n p) /\ SqT K H pk (ks.map V.int) /\ Ks ps.length ks /\
 ∀ H', Same H H' -> Q (.int (n - (xI (hdF ps (ups n) ks) : Int))) H'
section
variable {P : Program} {w : World} {K : W.Frag} {mg : Str -> Option Value} {base : Heap}
theorem zBy : zL ["web", "pick"] ["web", "pick"] (zE zru) := ⟨rfl, rfl, rfl, by decide +kernel, rfl, by decide +kernel, by decide +kernel⟩
theorem zDu (T : Txt K mg) (hset : mg "set" = none) (S : Src K mg "rank_of" zru ["web", "pick"]) (DH : Def P w K mg base 1 "heads_of" ["web", "pick"] (gK K)) : Def P w K mg base 2 "rank_of" ["web", "pick"] (zdl K) := by
 refine S.def zBy (fun vs H Q E h => ?_) (fun f cdv A outer s H vs Q E hr h => ?_)
 ·obtain ⟨_, _, _, _, _, rfl, _⟩ := h; rfl
 ·obtain ⟨wv, pk, n, ps, ks, rfl, W, n1, n9, hb, hk, hks, q⟩ := h;obtain ⟨c, d, xs, rfl, hc, hd, ht⟩ := W.ex;refine ⟨_, zG (zO (zQ zbd (yO (yI K) (pv 0) zF (fun _ _ => rfl)) (zN zea (by rfl) T.len PySem.boot_len (zA (zY (zdz rfl) rfl hset zfm (zA (zH DH hr rfl (zA (pv 0) (zA (pv 1) zB))) zB)) zB)))), ?_⟩;have i0 : atI ([.int n, .ref d] : List V) 0 = some (.int n) := yC (j := 0) rfl;refine ⟨_, rfl, c, _, _, _, rfl, rfl, SqT.of hc, i0, _, rfl, _, rfl, .ref c, pk, n, ps, ks, rfl, W, n1, n9, hb, hk, hks, fun l H1 s1 hl => ?_⟩;refine ⟨l, _, rfl, SqL.of hl, by rw [gX, yP]; lia, fun a S0 ha => ⟨a, S0, _, rfl, zC, _, _, rfl, rfl, ?_⟩⟩;exact q _ (s1.trans (Same.new ha))
end
def zbn (K : W.Frag) : Sp := fun vs H Q _ => ∃ (wv : V) (n : Int) (ps : List (Int × Int)), vs = [wv] /\ WebAt H wv n ps /\ 1 <= n /\ n <= 9 /\ (∀ p ∈ ps, InN n p) /\ ps.length <= 8 /\
 ∀ H', Same H H' -> Q (.int (n - (xI (hdF ps (ups n) (ups ps.length)) : Int))) H'
theorem wR (m : Nat) : Ks m (ups m) := by
 intro k hk;unfold ups at hk;obtain ⟨i, hi, rfl⟩ := Ql.mp hk;have : i < (m : Int).toNat := Q0.mp hi;lia
section
variable {P : Program} {w : World} {K : W.Frag} {mg : Str -> Option Value} {base : Heap}
theorem zxt : zL ["web"] ["web"] (zE zhu) := ⟨rfl, rfl, rfl, by decide +kernel, rfl, by decide +kernel, by decide +kernel⟩
theorem zzl (S : Src K mg "rank_of_web" zhu ["web"]) (DP : Def P w K mg base 1 "whole_pick" ["web"] zhk) (DR : Def P w K mg base 2 "rank_of" ["web", "pick"] (zdl K)) : Def P w K mg base 3 "rank_of_web" ["web"] (zbn K) := by
 refine S.def zxt (fun vs H Q E h => ?_) (fun f cdv A outer s H vs Q E hr h => ?_)
 ·obtain ⟨_, _, _, rfl, _⟩ := h; rfl
 ·obtain ⟨wv, n, ps, rfl, W, n1, n9, hb, hl8, q⟩ := h;have hr1 : Room 1 _ := hr.mono (by decide);have hr2 : Room 2 _ := hr.mono (by decide);refine ⟨_, zG (zO (zH DR hr2 rfl (zA (pv 0) (zA (zH DP hr1 rfl (zA (pv 0) zB)) zB)))), ?_⟩;refine ⟨_, rfl, _, rfl, wv, n, ps, rfl, W, hl8, fun t H1 s1 ht1 => ?_⟩;exact ⟨wv, t, n, ps, ups ps.length, rfl, W.same s1, n1, n9, hb, FzT.sq ht1, wR _, fun H2 s2 => q H2 (s1.trans s2)⟩
end
end My
namespace My
def first (p : List Int) : Int := match p.getLast? with | none => 0 | some x => x + 1
def more (m : Int) (p : List Int) : List (List Int) := (List.range (m - first p).toNat).map fun (k : Nat) => p ++ [first p + (k : Int)]
def vA (m : Int) : Nat -> List (List Int)
 | 0 => [[]]
 | s + 1 => (vA m s).flatMap (more m)
def wK (m : Int) : Nat -> List (List Int)
 | 0 => []
 | s + 1 => wK m s ++ vA m s
def zwg (z : Bool) : List Int -> List Int -> Bool
 | [], _ => z
 | _ :: _, [] => z
 | x :: xs, y :: ys => if x = y then zwg z xs ys else decide (x <= y)
def leq (p q : List Int) : Bool := if p.length = q.length then zwg (decide (p.length <= q.length)) p q else decide (p.length <= q.length)
def zbb : List Int -> Bool
 | [] => true
 | [_] => true
 | x :: y :: r => decide (x < y) && zbb (y :: r)
def jM (m : Int) (p : List Int) : Bool := p.all (fun x => decide (0 <= x) && decide (x < m)) && zbb p && decide (p.length <= 8)
def zgw : List (List Int) -> Bool
 | [] => true
 | [_] => true
 | p :: q :: r => decide (p ≠ q) && !leq q p && zgw (q :: r)
def chk (m : Int) : Bool :=
 (vA m (m.toNat + 1)).isEmpty && (List.range (m.toNat + 1)).all (fun j => !(vA m j).isEmpty && decide ((vA m j).length <= 100) && decide ((wK m j).length <= 300)) && decide ((wK m (m.toNat + 1)).length = 2 ^ m.toNat) &&
 (wK m (m.toNat + 1)).all (jM m) && zgw (wK m (m.toNat + 1)) && decide ((wK m (m.toNat + 1)).length <= 300)
theorem zzy : ∀ m ∈ ([0, 1, 2, 3, 4, 5, 6, 7, 8] : List Int), chk m = true := by decide +kernel
end My
namespace My
theorem zEf {m : Int} (h0 : 0 <= m) (h8 : m <= 8) : chk m = true := by
 refine zzy m ?_;have : m = 0 \/ m = 1 \/ m = 2 \/ m = 3 \/ m = 4 \/ m = 5 \/ m = 6 \/ m = 7 \/ m = 8 := by lia
 rcases this with rfl | rfl | rfl | rfl | rfl | rfl | rfl | rfl | rfl <;> decide
structure zpm (m : Int) : Prop where
 fin : vA m (m.toNat + 1) = []
 ne : ∀ j, j <= m.toNat -> vA m j ≠ []
 len : ∀ j, j <= m.toNat + 1 -> (vA m j).length <= 100
 ulen : ∀ j, j <= m.toNat + 1 -> (wK m j).length <= 300
 many : (wK m (m.toNat + 1)).length = 2 ^ m.toNat
 ok : ∀ p ∈ wK m (m.toNat + 1), jM m p = true
 ord : zgw (wK m (m.toNat + 1)) = true
theorem zkd {m : Int} (h0 : 0 <= m) (h8 : m <= 8) : zpm m := by
 have h := zEf h0 h8;unfold chk at h;simp only [Q5, Jb, decide_eq_true_eq, Wg, Q0] at h;obtain ⟨⟨⟨⟨⟨h1, h2⟩, h3⟩, h4⟩, h5⟩, h6⟩ := h;have e1 : vA m (m.toNat + 1) = [] := List.isEmpty_iff.mp h1;refine ⟨e1, fun j hj e => ?_, fun j hj => ?_, fun j hj => ?_, h3, h4, h5⟩
 ·have := (h2 j (by lia)).1.1;rw [e] at this;cases this
 ·by_cases hj' : j = m.toNat + 1
  ·rw [hj', e1]; exact Jj _
  ·exact (h2 j (by lia)).1.2
 ·by_cases hj' : j = m.toNat + 1
  ·rw [hj']; exact h6
  ·exact (h2 j (by lia)).2
theorem zje {m : Int} {p : List Int} : ∀ {n j : Nat}, j < n -> p ∈ vA m j -> p ∈ wK m n
 | n + 1, j, h, hp => by
  show p ∈ wK m n ++ vA m n;by_cases e : j = n
  ·subst e; exact Qp _ hp
  ·exact Qn _ (zje (by lia) hp)
theorem vV {m : Int} {p : List Int} (h : jM m p = true) : (∀ x ∈ p, 0 <= x /\ x < m) /\ zbb p = true /\ p.length <= 8 := by
 unfold jM at h;simp only [Q5, Jb, decide_eq_true_eq] at h;exact ⟨fun x hx => h.1.1 x hx, h.1.2, h.2⟩
theorem zle {m : Int} {p : List Int} (h : ∀ x ∈ p, 0 <= x /\ x < m) (h0 : 0 <= m) : 0 <= first p /\ first p <= m := by
 unfold first;cases e : p.getLast? with
 | none => exact ⟨Int.le_refl _, h0⟩
 | some x =>
  have := h x (List.mem_of_getLast? e);simp only;lia
end My
namespace My
open PySem L2
def TupAt (H : Hp) (v : V) (p : List Int) : Prop := ∃ a, v = .ref a /\ H a = some (.tup (p.map V.int))
theorem TupAt.same {H H' : Hp} {v : V} {p : List Int} (h : TupAt H v p) (e : Same H H') : TupAt H' v p := let ⟨a, h1, h2⟩ := h; ⟨a, h1, e _ _ h2⟩
theorem yR {H H' : Hp} {xs : List V} {ps : List (List Int)} (h : Paired (TupAt H) xs ps) (e : Same H H') : Paired (TupAt H') xs ps := L2.Paired.mapP h fun _ _ q => q.same e
theorem k6 {α β : Type} {F : α -> β -> Prop} : ∀ {l₁ m₁ : List α} {l₂ m₂ : List β}, Paired F l₁ l₂ -> Paired F m₁ m₂ -> Paired F (l₁ ++ m₁) (l₂ ++ m₂)
 | _, _, _, _, .nil, h => h
 | _, _, _, _, .cons r t, h => .cons r (k6 t h)
theorem qT {g : Addr} {H H' : Hp} {zs xs : List V} {ps : List (List Int)} (hg : H g = some (.lst zs)) (b : ∀ c o, c ≠ g -> H c = some o -> H' c = some o) (h : Paired (TupAt H) xs ps) : Paired (TupAt H') xs ps :=
 L2.Paired.mapP h fun _ _ ⟨a, e1, e2⟩ => ⟨a, e1, b _ _ (zee e2 hg (by intro z; cases z)) e2⟩
theorem Same.put' {H H2 : Hp} {p : Addr} {o : HO} (s : Same H H2) (h : H p = none) : Same H (upd H2 p o) := fun b u e => by rw [zU (zP e h)]; exact s b u e
def zvl (K : W.Frag) : Sp := fun vs H Q _ => ∃ (l : Addr) (m : Int) (xs : List V) (ps : List (List Int)), vs = [.ref l, .int m] /\ H l = some (.lst xs) /\ Paired (TupAt H) xs ps /\ 0 <= m /\ m <= 8 /\ ps.length <= 100 /\ (∀ p ∈ ps, jM m p = true) /\
 ∀ g ys H', Same H H' -> H g = none -> H' g = some (.lst ys) -> Paired (TupAt H') ys (ps.flatMap (more m)) -> Q (.ref g) H'
theorem zkl {m : Int} {p : List Int} (h : jM m p = true) (h0 : 0 <= m) (h8 : m <= 8) : (more m p).length <= 8 := by
 have := zle (vV h).1 h0;unfold more;rw [Qj, Jk];lia
theorem zld {m : Int} (h0 : 0 <= m) (h8 : m <= 8) : ∀ {ps : List (List Int)}, (∀ p ∈ ps, jM m p = true) -> (ps.flatMap (more m)).length <= 8 * ps.length
 | [], _ => by simp
 | p :: ps, h => by
  rw [List.flatMap_cons, Q3, Jh];have h1 := zkl (h p (Qk)) h0 h8;have h2 := zld h0 h8 (ps := ps) fun q hq => h q (Qy _ hq);lia
section
variable {P : Program} {w : World} {K : W.Frag} {mg : Str -> Option Value} {base : Heap}
theorem scMore : zL ["picks", "many", "greater", "pick", "first"] ["picks", "many"] (zE zrx) := ⟨rfl, rfl, rfl, by decide +kernel, rfl, by decide +kernel, by decide +kernel⟩
theorem zDy (T : Txt K mg) (S : Src K mg "with_one_more" zrx ["picks", "many"]) : Def P w K mg base 1 "with_one_more" ["picks", "many"] (zvl K) := by
 refine S.def scMore (fun vs H Q E h => ?_) (fun f cdv A outer s H vs Q E hr h => ?_)
 ·obtain ⟨l, m, xs, ps, rfl, _⟩ := h; rfl
 ·obtain ⟨l, m, xs, ps, rfl, hl, hp, m0, m8, hlen, hok, q⟩ := h;have xl : xs.length = ps.length := Paired.length hp;refine ⟨_, zD (zJ (i := 2) scMore.nd rfl (Or.inl rfl) (xM zB))
   (zD (wG PassesOwn.never rfl (zog (pv 0)) (zI (i := 3) scMore.nd rfl (Or.inr rfl))
    (zD (zJ (i := 4) scMore.nd rfl (Or.inl rfl) (kZ (kW (pv 3) (fun _ => rfl)) (zQ xN (yO (yI K) (pv 3) (zec kG zF) (fun _ _ => rfl)) zF) zF))
    (zG (wV (k5 PySem.F.plainAttrs_list PySem.F.slot_list_extend PySem.F.type_list_extend vW (pv 2) (zA (yT (N' := ["k", "pick"]) (fr := [none, some 3]) (zS (by rfl)) rfl (zqf rfl T.range (zA (pv 4) (zA (pv 1) zB)))
     (fun _ _ _ _ => zI (i := 0) (show (["k", "pick"] : List Str).Nodup by decide +kernel) rfl (Or.inl rfl) (Or.inr rfl)) (fun _ _ _ _ => xA)
     (fun _ _ _ _ => zQ (r := fun x y H Q => zww K x y H Q \/ zwv K x y H Q) (OpR.or zoo zom) (pv 1) (y8 (zA (pv 0) zB)))) zB))))))
   (zG (zO (pv 2)))), ?_⟩
  refine ⟨Jj _, fun g hg => ?_⟩;have ngl : l ≠ g := zP hl hg;have s0 := Same.new (o := HO.lst []) hg;have g0 : (upd H g (.lst [])) g = some (.lst []) := zC;generalize upd H g (.lst []) = H1 at s0 g0 ⊢;refine ⟨_, rfl, l, rfl, ⟨_, SqL.of (s0 _ _ hl)⟩, zlb (K := K) (a := l) (xs := xs) (fun i σ H2 => (∃ u v, σ = [some (.ref l), some (.int m), some (.ref g), u, v]) /\ Same H H2 /\ ∃ ys, H2 g = some (.lst ys) /\ Paired (TupAt H2) ys ((ps.take i).flatMap (more m)))
   ⟨⟨_, _, rfl⟩, s0, [], g0, .nil⟩ (fun i σ H2 _ z => SqL.of (z.2.1 _ _ hl)) ?_ ?_⟩
  ·rintro i x σ H2 hx ⟨⟨u, v, rfl⟩, s2, ys, hg2, hy⟩;obtain ⟨p, e1, c, rfl, hc⟩ := Paired.at hp hx;have pm : p ∈ ps := Jq e1;have ok := vV (hok p pm);have fn := zle ok.1 m0;have hc2 := s2 _ _ hc;have fin : ∀ (f : Int), f = first p -> zAh (tBM K "list" zoc (zlr 2) (zbl (zAi (zAw (zbl (zlr 4) (zbl (zlr 1) zsk))) [none, some 3] (yB 0) zEi
     (tOp (fun x y H Q => zww K x y H Q \/ zwv K x y H Q) (zlr 1) (zEj (zbl (zlr 0) zsk)))) zsk))
     { nx := fun σ H2 => (∃ u v, σ = [some (.ref l), some (.int m), some (.ref g), u, v]) /\ Same H H2 /\ ∃ ys, H2 g = some (.lst ys) /\ Paired (TupAt H2) ys ((ps.take (i + 1)).flatMap (more m)), rt := Q } [some (.ref l), some (.int m), some (.ref g), some (.ref c), some (.int f)] H2 := by
    rintro f rfl;refine ⟨_, rfl, .inl ⟨rfl, _, SqL.of hg2⟩, _, rfl, _, rfl, _, _, rfl, ⟨by lia, by lia, by lia, by lia⟩, ?_⟩;refine x8 (S := fun σ => ∃ v, σ = [v, some (.ref c)]) (Pv := fun j zs H3 => Same H2 H3 /\ Paired (TupAt H3) zs ((List.range j).map fun (k : Nat) => p ++ [first p + (k : Int)])) ⟨_, rfl⟩ ⟨Same.refl _, .nil⟩ (Js (show (m - first p).toNat <= 8 by lia) (by decide)) ?_ ?_
    ·rintro j zs σ H3 N hj ⟨u', rfl⟩ ⟨s3, hz⟩ hN;dsimp only [yB, List.set];refine zbk ?_;have hc3 := s3 _ _ hc2;refine ⟨_, rfl, _, rfl, by show 1 <= sizeLine; decide, fun d hd => ?_⟩;have s4 := Same.new (o := HO.tup [.int (first p + (j : Int))]) hd;have hd4 : (upd H3 d (.tup [.int (first p + (j : Int))])) d = some (.tup [.int (first p + (j : Int))]) := zC;generalize upd H3 d (.tup [.int (first p + (j : Int))]) = H4 at s4 hd4 ⊢;have go : ∀ (v : V) (H5 : Hp), Same H4 H5 -> TupAt H5 v (p ++ [first p + (j : Int)]) -> N (zs ++ [v]) [some (.int (first p + (j : Int))), some (.ref c)] H5 := fun v H5 s5 hv => by
      refine hN _ _ _ ⟨_, rfl⟩ ⟨s3.trans (s4.trans s5), ?_⟩ (by simp);rw [Wv, Qu];exact L2.Paired.snoc (yR hz (s4.trans s5)) hv
     cases p with
     | nil =>
      exact .inl ⟨c, d, _, rfl, rfl, SqT.of (s4 _ _ hc3), SqT.of hd4, go _ _ (Same.refl _) ⟨d, rfl, hd4⟩⟩
     | cons p0 pr =>
      refine .inr ⟨c, d, _, _, rfl, rfl, SqT.of (s4 _ _ hc3), SqT.of hd4, by simp, ?_, (fun z => nomatch z), fun _ r hr4 => ?_⟩
      ·have := ok.2.2;rw [Qj];exact Jx (Nat.add_le_add_right this _) (by show 8 + 1 <= sizeLine; decide)
      ·refine go _ _ (Same.new hr4) ⟨r, rfl, ?_⟩;rw [Qu];exact zC
    ·rintro zs H3 ⟨s3, hz⟩ r hr3;have e2 : (List.range (m - first p).toNat).map (fun (k : Nat) => p ++ [first p + (k : Int)]) = more m p := rfl;rw [e2] at hz;have s4 := Same.new (o := HO.lst zs) hr3;have hr4 : (upd H3 r (.lst zs)) r = some (.lst zs) := zC;generalize upd H3 r (.lst zs) = H4 at s4 hr4 ⊢;have hg4 := s4 _ _ (s3 _ _ hg2);have y4 := yR hy (s3.trans s4);have z4 := yR hz s4;have yl : ys.length = ((ps.take i).flatMap (more m)).length := Paired.length hy;have zl : zs.length = (more m p).length := Paired.length hz;have l1 := zld m0 m8 (ps := ps.take i) fun q hq => hok q (List.mem_of_mem_take hq);have l2 := zkl (hok p pm) m0 m8;have l3 : (ps.take i).length <= 100 := Jx (by rw [J8]; exact Nat.min_le_right _ _) hlen;refine ⟨g, r, ys, zs, rfl, rfl, hg4, hr4, Jx (show ys.length + zs.length <= 1000 by lia) (by decide), ?_⟩;refine ⟨⟨_, _, rfl⟩, Same.put' (s2.trans (s3.trans s4)) hg, ys ++ zs, zC, ?_⟩;have b : ∀ (cc : Addr) (o : HO), cc ≠ g -> H4 cc = some o -> (upd H4 g (.lst (ys ++ zs))) cc = some o := fun cc o h1 h2 => by rw [zU h1]; exact h2
     rw [zM e1, List.flatMap_append];refine k6 (qT hg4 b y4) ?_;rw [List.flatMap_cons, List.flatMap_nil, Jw];exact qT hg4 b z4
   refine ⟨_, rfl, _, .inr (.inl ⟨_, SqT.of hc2, rfl⟩), ?_⟩;cases p with
   | nil => exact wL (fin 0 rfl)
   | cons p0 pr =>
    refine jP ?_;obtain ⟨ini, z, ez⟩ : ∃ ini z, p0 :: pr = ini ++ [z] := ⟨(p0 :: pr).dropLast, (p0 :: pr).getLast (by simp), (List.dropLast_concat_getLast (by simp)).symm⟩;have ea : atI ((p0 :: pr).map V.int) (-1) = some (V.int z) := by rw [ez, Qu]; exact zlk _ _
    refine ⟨_, rfl, _, rfl, c, _, _, _, rfl, rfl, SqT.of hc2, ea, _, _, rfl, rfl, ?_⟩;refine fin (z + 1) ?_;rw [ez];unfold first;rw [List.getLast?_append];rfl
  ·rintro σ H2 ⟨⟨u, v, rfl⟩, s2, ys, hg2, hy⟩;rw [show ps.take xs.length = ps by rw [xl]; exact Q6] at hy;exact ⟨_, rfl, q g ys H2 s2 hg hg2 hy⟩
end
def zwu (K : W.Frag) : Sp := fun vs H Q _ => ∃ (wv : V) (n : Int) (ps : List (Int × Int)), vs = [wv] /\ WebAt H wv n ps /\ ps.length <= 8 /\
 ∀ g ys H', Same H H' -> H g = none -> H' g = some (.lst ys) -> Paired (TupAt H') ys (wK (ps.length : Int) (ps.length + 1)) -> Q (.ref g) H'
section
variable {P : Program} {w : World} {K : W.Frag} {mg : Str -> Option Value} {base : Heap}
theorem scAll : zL ["web", "many", "picks", "of_one_size"] ["web"] (zE zAn) := ⟨rfl, rfl, rfl, by decide +kernel, rfl, by decide +kernel, by decide +kernel⟩
theorem zFy (T : Txt K mg) (S : Src K mg "all_picks" zAn ["web"]) (DM : Def P w K mg base 1 "with_one_more" ["picks", "many"] (zvl K)) : Def P w K mg base 2 "all_picks" ["web"] (zwu K) := by
 refine S.def scAll (fun vs H Q E h => ?_) (fun f cdv A outer s H vs Q E hr h => ?_)
 ·obtain ⟨wv, n, ps, rfl, _⟩ := h; rfl
 ·obtain ⟨wv, n, ps, rfl, W, hlen, q⟩ := h;obtain ⟨c, d, xs, rfl, hc, hd, ht⟩ := W.ex;have xl : xs.length = ps.length := Paired.length ht;refine ⟨_, zD (zJ (i := 1) scAll.nd rfl (Or.inl rfl) (zN (yL K) (by rfl) T.len PySem.boot_len (zA (yO (yI K) (pv 0) zF (fun _ _ => rfl)) zB)))
   (zD (zJ (i := 2) scAll.nd rfl (Or.inl rfl) (xM zB))
   (zD (zJ (i := 3) scAll.nd rfl (Or.inl rfl) (xM (zA (y8 zB) zB)))
   (zD (kX PassesOwn.never (kW (pv 3) (fun _ => rfl))
    (zD (wV (k5 PySem.F.plainAttrs_list PySem.F.slot_list_extend PySem.F.type_list_extend vW (pv 2) (zA (pv 3) zB)))
    (zG (zJ (i := 3) scAll.nd rfl (Or.inl rfl) (zH DM hr rfl (zA (pv 3) (zA (pv 1) zB)))))))
   (zG (zO (pv 2)))))), ?_⟩
  have i1 : atI ([.int n, .ref d] : List V) 1 = some (.ref d) := yC (j := 1) rfl;refine ⟨_, rfl, c, _, _, _, rfl, rfl, SqT.of hc, i1, d, xs, rfl, .inr (SqT.of hd), ?_⟩;rw [xl];have m0 : (0 : Int) <= (ps.length : Int) := by lia
  have m8 : (ps.length : Int) <= 8 := by lia
  have PO := zkd m0 m8;have tn : ((ps.length : Int)).toNat = ps.length := by lia
  rw [<- show ((ps.length : Int)).toNat + 1 = ps.length + 1 by lia] at q;generalize (ps.length : Int) = m at m0 m8 PO tn q ⊢;refine ⟨Jj _, fun g hg => ?_⟩;have s1 := Same.new (o := HO.lst []) hg;have g1 : (upd H g (.lst [])) g = some (.lst []) := zC;generalize upd H g (.lst []) = H1 at s1 g1 ⊢;refine ⟨Jj _, fun e he => ⟨by show 1 <= sizeLine; decide, fun l hl => ?_⟩⟩;have s2 := Same.new (o := HO.tup []) he;have s3 := Same.new (o := HO.lst [.ref e]) hl;have he2 : (upd (upd H1 e (.tup [])) l (.lst [.ref e])) e = some (.tup []) := s3 _ _ zC;have hl2 : (upd (upd H1 e (.tup [])) l (.lst [.ref e])) l = some (.lst [.ref e]) := zC;have s13 := s2.trans s3;have ngl : g ≠ l := zP (s2 _ _ g1) hl;generalize upd (upd H1 e (.tup [])) l (.lst [.ref e]) = H3 at he2 hl2 s13 ⊢;refine ⟨fun k σ H4 => ∃ (j : Nat) (l : Addr) (zs ys : List V), k = m.toNat + 1 - j /\ j <= m.toNat + 1 /\ σ = [some (.ref c), some (.int m), some (.ref g), some (.ref l)] /\ Same H H4 /\ H4 g = some (.lst ys) /\ Paired (TupAt H4) ys (wK m j) /\ H4 l = some (.lst zs) /\ Paired (TupAt H4) zs (vA m j) /\ g ≠ l,
   ⟨_, 0, l, _, [], rfl, Jj _, rfl, s1.trans s13, s13 _ _ g1, .nil, hl2, .cons ⟨e, rfl, he2⟩ .nil, ngl⟩, ?_⟩
  rintro k σ H4 ⟨j, l, zs, ys, rfl, hj, rfl, s4, hg4, hy, hl4, hz, ngl⟩;refine ⟨_, rfl, _, .inl ⟨zs, SqL.of hl4, rfl⟩, ?_⟩;by_cases hjm : j = m.toNat + 1
  ·rw [hjm, PO.fin] at hz;have ez : zs = [] := by cases hz; rfl
   subst ez;refine wL ⟨_, rfl, ?_⟩;rw [hjm] at hy;exact q g ys H4 s4 hg hg4 hy
  ·have hj' : j <= m.toNat := by lia
   have nz : zs ≠ [] := fun e => PO.ne j hj' (by rw [e] at hz; cases hh : vA m j with | nil => rfl | cons a b => rw [hh] at hz; cases hz);have ez : (!zs.isEmpty) = true := by cases zs with | nil => exact absurd rfl nz | cons a b => rfl
   rw [ez];refine jP ⟨fun σ' H' => ∃ (j' : Nat) (l : Addr) (zs ys : List V), j' = j + 1 /\ σ' = [some (.ref c), some (.int m), some (.ref g), some (.ref l)] /\ Same H H' /\ H' g = some (.lst ys) /\ Paired (TupAt H') ys (wK m j') /\ H' l = some (.lst zs) /\ Paired (TupAt H') zs (vA m j') /\ g ≠ l,
    fun σ' H' h => (by
     obtain ⟨j', l, zs, ys, e, r⟩ := h;subst e;exact ⟨_, Nat.sub_lt_sub_left (Nat.lt_succ_of_le hj') (Nat.lt_succ_self j), j + 1, l, zs, ys, rfl, Nat.succ_le_succ hj', r⟩), ?_⟩
   have yl : ys.length = (wK m j).length := Paired.length hy;have zl : zs.length = (vA m j).length := Paired.length hz;have b1 := PO.ulen j hj;have b2 := PO.len j hj;refine ⟨_, rfl, .inl ⟨rfl, _, SqL.of hg4⟩, _, rfl, g, l, ys, zs, rfl, rfl, hg4, hl4, Jx (show ys.length + zs.length <= 1000 by lia) (by decide), ?_⟩;have bt : ∀ (cc : Addr) (o : HO), cc ≠ g -> H4 cc = some o -> (upd H4 g (.lst (ys ++ zs))) cc = some o := fun cc o h1 h2 => by rw [zU h1]; exact h2
   have s5 : Same H (upd H4 g (.lst (ys ++ zs))) := Same.put' s4 hg;have hg5 : (upd H4 g (.lst (ys ++ zs))) g = some (.lst (ys ++ zs)) := zC;have hl5 := bt l _ ngl.symm hl4;have y5 := k6 (qT hg4 bt hy) (qT hg4 bt hz);have z5 := qT hg4 bt hz;generalize upd H4 g (.lst (ys ++ zs)) = H5 at s5 hg5 hl5 y5 z5 ⊢;refine ⟨_, rfl, _, rfl, l, m, zs, vA m j, rfl, hl5, z5, m0, m8, b2, fun p hp => PO.ok p (zje (show j < m.toNat + 1 by lia) hp), fun g2 ws H6 s6 f2 hg6 hw => ?_⟩;exact ⟨j + 1, g2, ws, ys ++ zs, rfl, rfl, s5.trans s6, s6 _ _ hg5, yR y5 s6, hg6, hw, zP hg5 f2⟩
end
def rkP (n : Int) (ps : List (Int × Int)) (ks : List Int) : Int := n - (xI (hdF ps (ups n) ks) : Int)
def vJ (ps : List (Int × Int)) : List (List Int) := wK (ps.length : Int) (ps.length + 1)
def zas (n : Int) (ps : List (Int × Int)) (s r : Int) : List (List Int) := ((vJ ps).filter fun p => decide ((p.length : Int) = s)).filter fun p => decide (rkP n ps p = r)
def zT (n : Int) (ps : List (Int × Int)) : Int := rkP n ps (ups ps.length)
def zX (n : Int) (ps : List (Int × Int)) : List (List Int) := zas n ps (zT n ps) (zT n ps)
def xR (n : Int) (ps : List (Int × Int)) : Prop := (1 <= n /\ n <= 9) /\ (∀ p ∈ ps, InN n p) /\ ps.length <= 8
def zGh (K : W.Frag) : Sp := fun vs H Q _ => ∃ (wv : V) (n s r : Int) (ps : List (Int × Int)), vs = [wv, .int s, .int r] /\ WebAt H wv n ps /\ xR n ps /\
 ∀ g ys H', Same H H' -> H g = none -> H' g = some (.lst ys) -> Paired (TupAt H') ys (zas n ps s r) -> Q (.ref g) H'
def zGi (K : W.Frag) : Sp := fun vs H Q _ => ∃ (wv : V) (n : Int) (ps : List (Int × Int)), vs = [wv] /\ WebAt H wv n ps /\ xR n ps /\
 ∀ g ys H', Same H H' -> H g = none -> H' g = some (.lst ys) -> Paired (TupAt H') ys (zX n ps) -> Q (.ref g) H'
def zow (n : Int) (ps : List (Int × Int)) (ks : List Int) : Bool := decide ((ks.length : Int) = zT n ps) && decide (rkP n ps ks = zT n ps)
theorem zpl {ps : List (Int × Int)} (h8 : ps.length <= 8) : zpm (ps.length : Int) := zkd (by lia) (by lia)
theorem gG {ps : List (Int × Int)} (h8 : ps.length <= 8) : (vJ ps).length <= 300 := by
 have := (zpl h8).ulen (ps.length + 1) (by lia);exact this
theorem zhd {ps : List (Int × Int)} (h8 : ps.length <= 8) {p : List Int} (hp : p ∈ vJ ps) : jM (ps.length : Int) p = true := by
 refine (zpl h8).ok p ?_;rw [show ((ps.length : Int)).toNat = ps.length by lia];exact hp
theorem zab {ps : List (Int × Int)} (h8 : ps.length <= 8) {p : List Int} (hp : p ∈ vJ ps) : Ks ps.length p := fun k hk => (vV (zhd h8 hp)).1 k hk
theorem qH {n : Nat} (h : n <= 300) : n < sizeLine := Js h (by decide)
theorem yV {α : Type} {l : List α} {i : Nat} {x : α} (f : α -> Bool) (e : l[i]? = some x) : (l.take (i + 1)).filter f = (l.take i).filter f ++ (if f x then [x] else []) := by
 rw [zM e, Wz];congr 1;cases h : f x <;> simp [h]
theorem dec_int (a b : Int) : decide (V.int a = V.int b) = decide (a = b) := by
 rw [decide_eq_decide];exact ⟨fun z => by injection z, fun z => by rw [z]⟩
def zCi (K : W.Frag) : List V -> Hp -> VK -> Prop := fun xs H Q => ∃ p ys, xs = [.ref p] /\ (SqL K H p ys \/ SqT K H p ys) /\ Q (.int ys.length) H
section
variable {P : Program} {w : World} {K : W.Frag} {mg : Str -> Option Value} {base : Heap}
theorem scPW : zL ["web", "size", "rank", "of_this_size"] ["web", "size", "rank"] (zE sPW) := ⟨rfl, rfl, rfl, by decide +kernel, rfl, by decide +kernel, by decide +kernel⟩
theorem zFn : (["pick", "size"] : List Str).Nodup := by decide +kernel
theorem zFm : (["pick", "rank", "web"] : List Str).Nodup := by decide +kernel
theorem zIf (T : Txt K mg) (S : Src K mg "picks_with" sPW ["web", "size", "rank"]) (DA : Def P w K mg base 2 "all_picks" ["web"] (zwu K)) (DR : Def P w K mg base 2 "rank_of" ["web", "pick"] (zdl K)) : Def P w K mg base 3 "picks_with" ["web", "size", "rank"] (zGh K) := by
 refine S.def scPW (fun vs H Q E h => ?_) (fun f cdv A outer s H vs Q E hr h => ?_)
 ·obtain ⟨_, _, _, _, _, rfl, _⟩ := h; rfl
 ·obtain ⟨wv, n, sz, rn, ps, rfl, W, ⟨⟨n1, n9⟩, hb, h8⟩, q⟩ := h;have hr2 : Room 2 _ := hr.mono (by decide);refine ⟨_, zD (v9 (i := 3) scPW.nd rfl (Or.inl rfl) (N' := ["pick", "size"]) (fr := [none, some 1]) (zS (by rfl)) rfl (yM K .l (zH DA hr2 rfl (zA (pv 0) zB)))
    (fun _ _ _ _ => zI (i := 0) zFn rfl (Or.inl rfl) (Or.inr rfl)) (fun _ _ _ _ => y9 (yF qL (zN (r := zCi K) (yL K) (by rfl) T.len PySem.boot_len (zA (pv 0) zB)) (pv 1) (yQ _))) (fun _ _ _ _ => pv 0))
   (zG (zO (yT (N' := ["pick", "rank", "web"]) (fr := [none, some 2, some 0]) (zS (by rfl)) rfl (yM K .l (pv 3))
    (fun _ _ _ _ => zI (i := 0) zFm rfl (Or.inl rfl) (Or.inr rfl)) (fun _ _ _ _ => y9 (yF qL (zH DR hr2 rfl (zA (pv 2) (zA (pv 0) zB))) (pv 1) (yQ _))) (fun _ _ _ _ => pv 0)))), ?_⟩
  refine ⟨_, rfl, wv, n, ps, rfl, W, h8, fun g ys H1 s1 hgN hg hy => ?_⟩;have hy : Paired (TupAt H1) ys (vJ ps) := hy;have al : ys.length = (vJ ps).length := Paired.length hy;have al3 := gG h8;refine ⟨g, rfl, ⟨_, SqL.of hg⟩, yX (k := .l) (a := g) (xs := ys) (fun σ => ∃ v, σ = [v, some (.int sz)]) (fun j zs H2 => H2 = H1 /\ Paired (TupAt H1) zs (((vJ ps).take j).filter fun p => decide ((p.length : Int) = sz))) ⟨_, rfl⟩ ⟨rfl, .nil⟩ (qH (by lia)) (fun j zs H2 _ z => SqL.of (by rw [z.1]; exact hg)) ?_ ?_⟩
  ·rintro j x zs σ H2 N hx ⟨u, rfl⟩ ⟨rfl, hz⟩ hN;obtain ⟨p, ep, c, rfl, hc⟩ := Paired.at hy hx;dsimp only [yB, List.set];refine ⟨_, rfl, c, _, rfl, .inr (SqT.of hc), _, rfl, rfl, _, rfl, ?_⟩;rw [Qj, dec_int];have ef := yV (fun p => decide ((p.length : Int) = sz)) ep;refine zdt (fun z => ⟨_, rfl, ?_⟩) (fun z => ?_)
   ·refine hN _ _ _ ⟨_, rfl⟩ ⟨rfl, ?_⟩ (by simp);rw [ef, if_pos z];exact L2.Paired.snoc hz ⟨c, rfl, hc⟩
   ·refine hN _ _ _ ⟨_, rfl⟩ ⟨rfl, ?_⟩ (by lia);rw [ef, if_neg z, Jw];exact hz
  ·rintro zs H2 ⟨rfl, hz⟩ l hl;rw [al, Q6] at hz;have s2 := Same.new (o := HO.lst zs) hl;have hl2 : (upd H2 l (.lst zs)) l = some (.lst zs) := zC;have hz2 := yR hz s2;have s12 := s1.trans s2;generalize upd H2 l (.lst zs) = H3 at s2 hl2 hz2 s12 ⊢;generalize hL : ((vJ ps).filter fun p => decide ((p.length : Int) = sz)) = L at hz2;have inL : ∀ p ∈ L, p ∈ vJ ps := fun p hp => by rw [<- hL] at hp; exact (Qg.mp hp).1
   have zl : zs.length = L.length := Paired.length hz2;have ll : L.length <= (vJ ps).length := by rw [<- hL]; exact Jr _ _
   refine ⟨_, rfl, l, rfl, ⟨_, SqL.of hl2⟩, yX (k := .l) (a := l) (xs := zs) (fun σ => ∃ v, σ = [v, some (.int rn), some wv]) (fun j us H2 => Same H3 H2 /\ Paired (TupAt H2) us ((L.take j).filter fun p => decide (rkP n ps p = rn))) ⟨_, rfl⟩ ⟨Same.refl _, .nil⟩ (qH (by lia)) (fun j us H2 _ z => SqL.of (z.1 _ _ hl2)) ?_ ?_⟩
   ·rintro j x us σ H4 N hx ⟨u, rfl⟩ ⟨s4, hu⟩ hN;obtain ⟨p, ep, c, rfl, hc⟩ := Paired.at hz2 hx;have pin := inL p (Jq ep);dsimp only [yB, List.set];refine ⟨_, rfl, _, rfl, wv, c, n, ps, p, rfl, W.same (s12.trans s4), n1, n9, hb, SqT.of (s4 _ _ hc), zab h8 pin, fun H5 s5 => ⟨_, rfl, rfl, _, rfl, ?_⟩⟩;rw [dec_int];have ef := yV (fun p => decide (rkP n ps p = rn)) ep;refine zdt (fun z => ⟨_, rfl, ?_⟩) (fun z => ?_)
    ·refine hN _ _ _ ⟨_, rfl⟩ ⟨s4.trans s5, ?_⟩ (by simp);rw [ef, if_pos (show decide (rkP n ps p = rn) = true from z)];exact L2.Paired.snoc (yR hu s5) ⟨c, rfl, s5 _ _ (s4 _ _ hc)⟩
    ·refine hN _ _ _ ⟨_, rfl⟩ ⟨s4.trans s5, ?_⟩ (by lia);rw [ef, if_neg (show ¬ decide (rkP n ps p = rn) = true from z), Jw];exact yR hu s5
   ·rintro us H4 ⟨s4, hu⟩ r hr4;rw [zl, Q6] at hu;have s5 := Same.new (o := HO.lst us) hr4;refine q r us _ ((s12.trans s4).trans s5) ?_ zC ?_
    ·cases e : H r with
     | none => rfl
     | some o => exact absurd ((s12.trans s4) _ _ e) (by rw [hr4]; intro z; cases z)
    ·have hw : zas n ps sz rn = L.filter fun p => decide (rkP n ps p = rn) := by unfold zas; rw [hL]
     rw [hw];exact yR hu s5
theorem zHi : zL ["web"] ["web"] (zE sAT) := ⟨rfl, rfl, rfl, by decide +kernel, rfl, by decide +kernel, by decide +kernel⟩
theorem zFx (S : Src K mg "all_trees" sAT ["web"]) (DW : Def P w K mg base 3 "rank_of_web" ["web"] (zbn K)) (DP : Def P w K mg base 3 "picks_with" ["web", "size", "rank"] (zGh K)) : Def P w K mg base 4 "all_trees" ["web"] (zGi K) := by
 refine S.def zHi (fun vs H Q E h => ?_) (fun f cdv A outer s H vs Q E hr h => ?_)
 ·obtain ⟨_, _, _, rfl, _⟩ := h; rfl
 ·obtain ⟨wv, n, ps, rfl, W, ok, q⟩ := h;obtain ⟨⟨n1, n9⟩, hb, h8⟩ := ok;have hr3 : Room 3 _ := hr.mono (by decide);refine ⟨_, zG (zO (zH DP hr3 rfl (zA (pv 0) (zA (zH DW hr3 rfl (zA (pv 0) zB)) (zA (zH DW hr3 rfl (zA (pv 0) zB)) zB))))), ?_⟩;refine ⟨_, rfl, _, rfl, wv, n, ps, rfl, W, n1, n9, hb, h8, fun H1 s1 => ⟨_, rfl, wv, n, ps, rfl, W.same s1, n1, n9, hb, h8, fun H2 s2 => ?_⟩⟩;have s12 := s1.trans s2;refine ⟨wv, n, _, _, ps, rfl, W.same s12, ⟨⟨n1, n9⟩, hb, h8⟩, fun g ys H3 s3 hgN hg hy => q g ys H3 (s12.trans s3) ?_ hg hy⟩;cases e : H g with
  | none => rfl
  | some o => exact absurd (s12 _ _ e) (by rw [hgN]; intro z; cases z)
end
end My
namespace My
open PySem L2 PyProof.Rows
theorem zwq {l : List Int} {i : Int} (h0 : 0 <= i) (h : i < l.length) : at0 l i ∈ l := zdf (by lia)
theorem zEg {l : List Int} {f : Int -> Int} {i : Int} (h0 : 0 <= i) (h : i < l.length) : at0 (l.map f) i = f (at0 l i) := qX (by lia)
theorem ziq {n i : Int} (h0 : 0 <= i) (h : i < n) : at0 (ups n) i = i := by
 have : i.toNat < n.toNat := by lia
 unfold at0 ups;simp [List.getD, this];lia
theorem mem_ups {n i : Int} : i ∈ ups n ↔ 0 <= i /\ i < n := by
 unfold ups;rw [Ql];constructor
 ·rintro ⟨j, hj, rfl⟩;have := Q0.mp hj;lia
 ·rintro ⟨a, b⟩;exact ⟨i.toNat, Q0.mpr (by lia), by lia⟩
theorem xS (n : Int) : (ups n).Pairwise (· < ·) := by
 unfold ups;rw [Jt];exact List.pairwise_lt_range.imp fun h => by lia
theorem vY {j : Int} (h : 0 <= j) : ups (j + 1) = ups j ++ [j] := by
 unfold ups;rw [show (j + 1).toNat = j.toNat + 1 by lia, Wv, Qu];simp;exact Int.max_eq_left h
structure GH (n : Int) (ps : List (Int × Int)) (ks hs : List Int) : Prop where
 len : (hs.length : Int) = n
 le : ∀ i, 0 <= i -> i < n -> 0 <= at0 hs i /\ at0 hs i <= i
 idem : ∀ i, 0 <= i -> i < n -> at0 hs (at0 hs i) = at0 hs i
 join : ∀ k ∈ ks, at0 hs (yE ps k).1 = at0 hs (yE ps k).2
 cl : ∀ F : Int -> Prop, (∀ k ∈ ks, (F (yE ps k).1 ↔ F (yE ps k).2)) -> ∀ i, 0 <= i -> i < n -> (F i ↔ F (at0 hs i))
theorem zue {n : Int} (h1 : 1 <= n) (ps : List (Int × Int)) : GH n ps [] (ups n) where
 len := by rw [yP]; lia
 le i a b := by rw [ziq a b]; lia
 idem i a b := by rw [ziq a b, ziq a b]
 join k hk := nomatch hk
 cl F _ i a b := by rw [ziq a b]
theorem zyw {n : Int} {ps : List (Int × Int)} {ks hs : List Int} {k : Int} (G : GH n ps ks hs) (hall : ∀ k ∈ ks, InN n (yE ps k)) (hp : InN n (yE ps k)) : GH n ps (ks ++ [k]) (xW hs (yE ps k)) := by
 generalize hp' : yE ps k = p at hp ⊢;obtain ⟨a1, a2, b1, b2⟩ := id hp;have ln := G.len;by_cases he : at0 hs p.1 = at0 hs p.2
 ·rw [jY he];refine ⟨G.len, G.le, G.idem, fun j hj => ?_, fun F hF i h0 hi => G.cl F (fun j hj => hF j (Qn _ hj)) i h0 hi⟩;rcases Qr.mp hj with z | z
  ·exact G.join j z
  ·rw [Qx.mp z, hp']; exact he
 ·obtain ⟨low, high, lh, es, fl, fh, lp, lle, dom⟩ : ∃ low high, low < high /\ xW hs p = hs.map (fun x => if x = high then low else x) /\ at0 hs low = low /\ at0 hs high = high /\ 0 <= low /\ high < n /\ ((at0 hs p.1 = low /\ at0 hs p.2 = high) \/ (at0 hs p.1 = high /\ at0 hs p.2 = low)) := by
   have la := G.le p.1 a1 a2;have lb := G.le p.2 b1 b2;have ia := G.idem p.1 a1 a2;have ib := G.idem p.2 b1 b2;by_cases hlt : at0 hs p.2 < at0 hs p.1
   ·refine ⟨at0 hs p.2, at0 hs p.1, hlt, ?_, ib, ia, lb.1, by lia, .inr ⟨rfl, rfl⟩⟩;unfold xW;rw [if_neg (by lia), if_pos hlt]
   ·refine ⟨at0 hs p.1, at0 hs p.2, by lia, ?_, ia, ib, la.1, by lia, .inl ⟨rfl, rfl⟩⟩;unfold xW;rw [if_pos (by lia), if_neg hlt]
  rw [es];have am : ∀ i, 0 <= i -> i < n -> at0 (hs.map fun x => if x = high then low else x) i = if at0 hs i = high then low else at0 hs i := fun i h0 hi => zEg h0 (by lia);refine ⟨by rw [Qj]; exact ln, fun i h0 hi => ?_, fun i h0 hi => ?_, fun j hj => ?_, fun F hF i h0 hi => ?_⟩
  ·rw [am i h0 hi];have := G.le i h0 hi;split <;> lia
  ·rw [am i h0 hi];have l1 := G.le i h0 hi;by_cases c : at0 hs i = high
   ·rw [if_pos c, am low lp (by lia), fl, if_neg (by lia)]
   ·rw [if_neg c, am (at0 hs i) l1.1 (by lia), G.idem i h0 hi, if_neg c]
  ·have inj : InN n (yE ps j) := by
    rcases Qr.mp hj with z | z
    ·exact hall j z
    ·rw [Qx.mp z, hp']; exact hp
   obtain ⟨c1, c2, c3, c4⟩ := inj;rw [am _ c1 c2, am _ c3 c4];rcases Qr.mp hj with z | z
   ·rw [G.join j z]
   ·rw [Qx.mp z, hp'];rcases dom with ⟨d1, d2⟩ | ⟨d1, d2⟩ <;> rw [d1, d2] <;> simp
  ·have old := G.cl F (fun j hj => hF j (Qn _ hj));have fp : F p.1 ↔ F p.2 := by have := hF k (by simp); rw [hp'] at this; exact this
   rw [am i h0 hi, old i h0 hi];by_cases c : at0 hs i = high
   ·rw [if_pos c, c];have o1 := old p.1 a1 a2;have o2 := old p.2 b1 b2;rcases dom with ⟨d1, d2⟩ | ⟨d1, d2⟩
    ·rw [d1] at o1; rw [d2] at o2;exact o2.symm.trans (fp.symm.trans o1)
    ·rw [d1] at o1; rw [d2] at o2;exact o1.symm.trans (fp.trans o2)
   ·rw [if_neg c]
theorem zAz {n : Int} {ps : List (Int × Int)} : ∀ (ks done hs : List Int), (∀ k ∈ done ++ ks, InN n (yE ps k)) -> GH n ps done hs -> GH n ps (done ++ ks) (hdF ps hs ks)
 | [], done, hs, _, G => by rw [Jw]; exact G
 | k :: ks, done, hs, h, G => by
  have := zAz ks (done ++ [k]) (xW hs (yE ps k)) (by rw [Jc]; exact h) (zyw G (fun j hj => h j (Qn _ hj)) (h k (by simp)));rw [Jc] at this;exact this
theorem vF {n : Int} {ps : List (Int × Int)} {ks : List Int} (h1 : 1 <= n) (hb : ∀ p ∈ ps, InN n p) (hk : Ks ps.length ks) : GH n ps ks (hdF ps (ups n) ks) :=
 zAz ks [] (ups n) (fun k h => jG hb (hk k h).1 (hk k h).2) (zue h1 ps)
def zws (n : Int) (hs : List Int) (h : Int) : List Int := (ups n).filter fun i => decide (at0 hs i = h)
def wZ (n : Int) (hs : List Int) : List Int := (ups n).filter fun i => decide (at0 hs i = i)
def zed (n : Int) (hs : List Int) : List (List Int) := (wZ n hs).map (zws n hs)
theorem mem_hpts {n : Int} {hs : List Int} {i : Int} : i ∈ wZ n hs ↔ (0 <= i /\ i < n) /\ at0 hs i = i := by
 unfold wZ; rw [Qg, mem_ups, Qc]
theorem zox (n : Int) (hs : List Int) : (wZ n hs).Pairwise (· <= ·) := ((xS n).filter _).imp fun h => by lia
theorem gN {l m : List Int} (p : l.Perm m) (h1 : l.Pairwise (· <= ·)) (h2 : m.Pairwise (· <= ·)) : l = m := List.Perm.eq_of_pairwise (fun a b _ _ h1 h2 => by lia) h1 h2 p
theorem vS {l m : List Int} (h1 : l.Nodup) (h2 : m.Nodup) (h : ∀ i, i ∈ l ↔ i ∈ m) : l.Perm m := (Wx h1 h2).mpr h
theorem kJ {n : Int} {l : List Int} (h0 : 0 <= n) (nd : l.Nodup) (h : ∀ i ∈ l, 0 <= i /\ i < n) : (l.length : Int) <= n := by
 have p : l.Perm ((ups n).filter fun i => decide (i ∈ l)) := vS nd (((xS n).filter _).imp fun h => by lia) fun i => by
  rw [Qg, mem_ups, Qc];exact ⟨fun z => ⟨h i z, z⟩, fun z => z.2⟩
 have := p.length_eq;have := Jr (fun i => decide (i ∈ l)) (ups n);rw [yP] at this;lia
theorem zaf {n : Int} {ps : List (Int × Int)} {ks hs : List Int} (G : GH n ps ks hs) : ∀ j : Nat, (j : Int) <= n -> firstMet (fun i => hs.getD i 0) j = (ups j).filter fun i => decide (at0 hs i = i)
 | 0, _ => rfl
 | j + 1, h => by
  have ih := zaf G j (by lia);have l1 := G.le j (by lia) (by lia);have l2 := G.idem j (by lia) (by lia);have ej : hs.getD j 0 = at0 hs j := rfl;rw [firstMet_succ, ih, show ((j + 1 : Nat) : Int) = (j : Int) + 1 by lia, vY (by lia), Wz, ej];unfold step_dedup;by_cases c : at0 hs j = (j : Int)
  ·have : (((ups j).filter fun i => decide (at0 hs i = i)).any (· == at0 hs j)) = false := by
    rw [List.any_eq_false];intro x hx e;have : x = at0 hs j := by simpa using e
    have := (mem_ups.mp (Qg.mp hx).1).2;lia
   rw [this];simp [c]
  ·have : (((ups j).filter fun i => decide (at0 hs i = i)).any (· == at0 hs j)) = true := by
    rw [Ju];exact ⟨at0 hs j, Qg.mpr ⟨mem_ups.mpr ⟨l1.1, by lia⟩, by simpa using l2⟩, by simp⟩
   rw [this];simp [c]
theorem zsv : ∀ b1 b2 b3 b4 b5 b6 b7 b8 : Bool, x4 (jX true (0 :: (([(1, b1), (2, b2), (3, b3), (4, b4), (5, b5), (6, b6), (7, b7), (8, b8)] : List (Int × Bool)).filter (·.2)).map (·.1))).2 (0 :: (([(1, b1), (2, b2), (3, b3), (4, b4), (5, b5), (6, b6), (7, b7), (8, b8)] : List (Int × Bool)).filter (·.2)).map (·.1)).length = true := by decide +kernel
theorem zdg (q : Int -> Bool) : ∀ l : List Int, l.filter q = ((l.map fun x => (x, q x)).filter (·.2)).map (·.1)
 | [] => rfl
 | x :: l => by
  rw [Qm, List.filter_cons, List.filter_cons];show (if q x = true then _ else _) = (if q x = true then _ else _ : List (Int × Bool)).map _;split
  ·rw [Qm, <- zdg q l]
  ·exact zdg q l
theorem zGx {n : Int} (h1 : 1 <= n) (h9 : n <= 9) : ups n = (ups 9).filter fun i => decide (i < n) := by
 rcases zGn h1 h9 with rfl | rfl | rfl | rfl | rfl | rfl | rfl | rfl | rfl <;> decide +kernel
theorem zud {n : Int} {ps : List (Int × Int)} {ks hs : List Int} (h1 : 1 <= n) (h9 : n <= 9) (G : GH n ps ks hs) : x4 (jX true (wZ n hs)).2 (wZ n hs).length = true := by
 have e : wZ n hs = 0 :: ([1, 2, 3, 4, 5, 6, 7, 8] : List Int).filter fun i => decide (at0 hs i = i) && decide (i < n) := by
  unfold wZ;rw [zGx h1 h9, List.filter_filter];have z := G.le 0 (by lia) (by lia);show ([0, 1, 2, 3, 4, 5, 6, 7, 8] : List Int).filter _ = _;rw [List.filter_cons, if_pos];have : at0 hs 0 = 0 := by lia
  rw [Q2 this, Q2 (show (0 : Int) < n by lia)];rfl
 rw [e, zdg];exact zsv _ _ _ _ _ _ _ _
end My
namespace My
open PySem L2 PyProof.Rows
def cN (n : Int) (ps : List (Int × Int)) (ks : List Int) : Int := (xI (hdF ps (ups n) ks) : Nat)
theorem zls (hs : List Int) (p : Int × Int) : xW hs (wD p) = xW hs p := by
 rcases wW p with ⟨e1, e2⟩ | ⟨e1, e2⟩
 ·unfold xW; rw [e1, e2]
 ·unfold xW;rw [e1, e2];have h1 : (if at0 hs p.1 > at0 hs p.2 then at0 hs p.1 else at0 hs p.2) = if at0 hs p.2 > at0 hs p.1 then at0 hs p.2 else at0 hs p.1 := by split <;> split <;> lia
  have h2 : (if at0 hs p.1 < at0 hs p.2 then at0 hs p.1 else at0 hs p.2) = if at0 hs p.2 < at0 hs p.1 then at0 hs p.2 else at0 hs p.1 := by split <;> split <;> lia
  rw [h1, h2]
theorem zla {ps : List (Int × Int)} : ∀ (ks hs : List Int), Ks ps.length ks -> hdF (ps.map wD) hs ks = hdF ps hs ks
 | [], _, _ => rfl
 | k :: ks, hs, h => by
  show hdF (ps.map wD) (xW hs (yE (ps.map wD) k)) ks = hdF ps (xW hs (yE ps k)) ks;obtain ⟨k0, kl⟩ := h k Qk;rw [zes k0 kl, zls, zla ks _ fun j hj => h j (Qy _ hj)]
theorem zoy {n : Int} {ps : List (Int × Int)} {ks ks' hs hs' : List Int} (G : GH n ps ks hs) (G' : GH n ps ks' hs') (sub : ∀ k ∈ ks, k ∈ ks') {i j : Int} (i0 : 0 <= i) (i1 : i < n) (j0 : 0 <= j) (j1 : j < n) (e : at0 hs i = at0 hs j) : at0 hs' i = at0 hs' j := by
 have c := G.cl (fun x => at0 hs' i = at0 hs' x) fun k hk => by rw [G'.join k (sub k hk)]
 have c1 := c i i0 i1;rw [e] at c1;exact (c j j0 j1).mpr (c1.mp rfl)
theorem zAy {n : Int} {ps : List (Int × Int)} {ks ks' hs hs' : List Int} (G : GH n ps ks hs) (G' : GH n ps ks' hs') (sub : ∀ k ∈ ks, k ∈ ks') {i : Int} (i0 : 0 <= i) (i1 : i < n) : at0 hs' i <= at0 hs i := by
 have l := G.le i i0 i1;have m := zoy G G' sub l.1 (by lia) i0 i1 (G.idem i i0 i1);have l2 := G'.le (at0 hs i) l.1 (by lia);lia
theorem zyx {n : Int} {ps : List (Int × Int)} {ks ks' hs hs' : List Int} (G : GH n ps ks hs) (G' : GH n ps ks' hs') (h : ∀ k, k ∈ ks ↔ k ∈ ks') : hs = hs' := by
 have l1 := G.len;have l2 := G'.len;apply List.ext_getElem (by lia);intro i h1 h2;have a := zAy G G' (fun k hk => (h k).mp hk) (i := i) (by lia) (by lia);have b := zAy G' G (fun k hk => (h k).mpr hk) (i := i) (by lia) (by lia);have e1 : at0 hs i = hs[i] := by unfold at0; rw [Q4]; simp [List.getD, h1]
 have e2 : at0 hs' i = hs'[i] := by unfold at0; rw [Q4]; simp [List.getD, h2]
 lia
section
variable {n : Int} {ps : List (Int × Int)}
theorem zbg (n1 : 1 <= n) (hb : ∀ p ∈ ps, InN n p) {ks ks' : List Int} (h1 : Ks ps.length ks) (h2 : Ks ps.length ks') (h : ∀ k, k ∈ ks ↔ k ∈ ks') : cN n ps ks = cN n ps ks' := by
 unfold cN;rw [zyx (vF n1 hb h1) (vF n1 hb h2) h]
theorem qM (n1 : 1 <= n) (hb : ∀ p ∈ ps, InN n p) {ks : List Int} {k : Int} (h1 : Ks ps.length ks) (k0 : 0 <= k) (kl : k < ps.length) :
  cN n ps (ks ++ [k]) = cN n ps ks - if at0 (hdF ps (ups n) ks) (yE ps k).1 = at0 (hdF ps (ups n) ks) (yE ps k).2 then 0 else 1 := by
 have G := vF n1 hb h1;obtain ⟨a1, a2, b1, b2⟩ := jG hb k0 kl;unfold cN;rw [zkz];generalize hdF ps (ups n) ks = hs at G ⊢;have ln := G.len;by_cases e : at0 hs (yE ps k).1 = at0 hs (yE ps k).2
 ·rw [jY e, if_pos e]; lia
 ·obtain ⟨u, v, huv, e1, hu⟩ := zjl e;have m1 : at0 hs (yE ps k).1 ∈ hs := zwq a1 (by lia);have m2 : at0 hs (yE ps k).2 ∈ hs := zwq b1 (by lia);have mu : u ∈ hs := by rcases hu with ⟨z, _⟩ | ⟨z, _⟩ <;> rw [z] <;> assumption
  have mv : v ∈ hs := by rcases hu with ⟨_, z⟩ | ⟨_, z⟩ <;> rw [z] <;> assumption
  have := kC huv mu mv;rw [e1, if_neg e];lia
theorem zR {m : Nat} {X Y : List Int} (h1 : Ks m X) (h2 : Ks m Y) : Ks m (X ++ Y) := fun k hk => by
 rcases Qr.mp hk with z | z
 ·exact h1 k z
 ·exact h2 k z
theorem zxf (n1 : 1 <= n) (hb : ∀ p ∈ ps, InN n p) : ∀ (D X Y : List Int), Ks ps.length D -> Ks ps.length X -> Ks ps.length Y -> (∀ k ∈ X, k ∈ Y) -> cN n ps Y - cN n ps (Y ++ D) <= cN n ps X - cN n ps (X ++ D)
 | [], X, Y, _, _, _, _ => by simp
 | d :: D, X, Y, hD, hX, hY, sub => by
  obtain ⟨d0, dl⟩ := hD d Qk;have hd1 : Ks ps.length [d] := fun k hk => by rw [Qx.mp hk]; exact ⟨d0, dl⟩
  have ih := zxf n1 hb D (X ++ [d]) (Y ++ [d]) (fun k hk => hD k (Qy _ hk)) (zR hX hd1) (zR hY hd1) fun k hk => by
   rcases Qr.mp hk with z | z
   ·exact Qn _ (sub k z)
   ·exact Qp _ z
  rw [Jc, Jc] at ih;have cx := qM n1 hb hX d0 dl;have cy := qM n1 hb hY d0 dl;obtain ⟨a1, a2, b1, b2⟩ := jG hb d0 dl;have mono := zoy (vF n1 hb hX) (vF n1 hb hY) sub a1 a2 b1 b2;have key : cN n ps Y - cN n ps (Y ++ [d]) <= cN n ps X - cN n ps (X ++ [d]) := by
   rw [cx, cy];by_cases e : at0 (hdF ps (ups n) X) (yE ps d).1 = at0 (hdF ps (ups n) X) (yE ps d).2
   ·rw [if_pos e, if_pos (mono e)]; lia
   ·rw [if_neg e]; split <;> lia
  show cN n ps Y - cN n ps (Y ++ ([d] ++ D)) <= cN n ps X - cN n ps (X ++ ([d] ++ D));lia
theorem zmr (n1 : 1 <= n) (hb : ∀ p ∈ ps, InN n p) : ∀ (D X : List Int), Ks ps.length D -> Ks ps.length X -> 0 <= cN n ps X - cN n ps (X ++ D) /\ cN n ps X - cN n ps (X ++ D) <= D.length
 | [], X, _, _ => by simp
 | d :: D, X, hD, hX => by
  obtain ⟨d0, dl⟩ := hD d Qk;have hd1 : Ks ps.length [d] := fun k hk => by rw [Qx.mp hk]; exact ⟨d0, dl⟩
  have ih := zmr n1 hb D (X ++ [d]) (fun k hk => hD k (Qy _ hk)) (zR hX hd1);rw [Jc] at ih;have cx := qM n1 hb hX d0 dl;show 0 <= cN n ps X - cN n ps (X ++ ([d] ++ D)) /\ cN n ps X - cN n ps (X ++ ([d] ++ D)) <= ((D.length + 1 : Nat) : Int);split at cx <;> lia
theorem zmq (n1 : 1 <= n) (n9 : n <= 9) : cN n ps [] = n := zvd n1 n9
theorem zli (n1 : 1 <= n) (n9 : n <= 9) (hb : ∀ p ∈ ps, InN n p) {A : List Int} (hA : Ks ps.length A) : 0 <= n - cN n ps A /\ n - cN n ps A <= A.length := by
 have := zmr n1 hb A [] hA (fun _ z => nomatch z)
 rw [Wf, zmq n1 n9] at this;exact this
theorem zpi (n1 : 1 <= n) (hb : ∀ p ∈ ps, InN n p) {A : List Int} (hA : Ks ps.length A) : ((zed n (hdF ps (ups n) A)).length : Int) = cN n ps A := by
 have G := vF n1 hb hA;have ln := G.len;unfold cN;generalize hdF ps (ups n) A = hs at G ln ⊢;have m := zaf G n.toNat (by lia);rw [show ((n.toNat : Nat) : Int) = n by lia] at m;have d := qQ hs n.toNat (by lia);rw [W3 (by lia), m] at d;unfold zed wZ;rw [Qj, d]
end
def mvP (n t : Int) (p : Int × Int) : Int × Int := ((p.1 + t) % n, (p.2 + t) % n)
def mv (n t : Int) (ps : List (Int × Int)) : List (Int × Int) := ps.reverse.map (mvP n t)
def tn (ps : List (Int × Int)) (k : Int) : Int := (ps.length : Int) - 1 - k
def zzz (b k : Int) : Bool := decide (Builtin.bitAnd (b / 2 ^ k.toNat) 1 = 1)
def pkB (b : Int) (m : Nat) : List Int := (ups m).filter (zzz b)
theorem mem_pkB {b k : Int} {m : Nat} : k ∈ pkB b m ↔ (0 <= k /\ k < m) /\ zzz b k = true := by unfold pkB; rw [Qg, mem_ups]
theorem zCo (b : Int) (m : Nat) : Ks m (pkB b m) := fun k h => (mem_pkB.mp h).1
end My
namespace My
open PySem L2
def zEr : Nat -> List (List Bool)
 | 0 => [[]]
 | m + 1 => (zEr m).flatMap fun l => [true :: l, false :: l]
theorem zll : ∀ {m : Nat} {bs : List Bool}, bs.length = m -> bs ∈ zEr m
 | 0, [], _ => Qx.mpr rfl
 | 0, _ :: _, h => nomatch h
 | m + 1, [], h => nomatch h
 | m + 1, b :: bs, h => by
  refine List.mem_flatMap.mpr ⟨bs, zll (by simpa using h), ?_⟩;cases b <;> simp
def pkL (m : Nat) (bs : List Bool) : List Int := (((ups m).zip bs).filter (·.2)).map (·.1)
def pkN (m b : Nat) : List Int := (((List.range m).filter fun k => b.testBit k).map fun (k : Nat) => (k : Int))
def pw : List (List Int) -> Bool
 | [] => true
 | p :: l => l.all (fun q => !HT.lexLt q p) && pw l
theorem zAr : ∀ {l : List (List Int)}, pw l = true -> l.Pairwise qN
 | [], _ => .nil
 | p :: l, h => by
  have e : pw (p :: l) = (l.all (fun q => !HT.lexLt q p) && pw l) := rfl;rw [e, Q5, Jb] at h;exact .cons (fun q hq => by have := h.1 q hq; simpa [qN] using this) (zAr h.2)
def ndB : List (List Int) -> Bool
 | [] => true
 | p :: l => !l.contains p && ndB l
theorem zvz : ∀ {l : List (List Int)}, ndB l = true -> l.Nodup
 | [], _ => .nil
 | p :: l, h => by
  have e : ndB (p :: l) = (!l.contains p && ndB l) := rfl;rw [e, Q5] at h;exact Jy.mpr ⟨by simpa using h.1, zvz h.2⟩
def zEp (m : Nat) : Bool :=
 ((List.range (2 ^ m)).map (pkN m)).isPerm (wK m (m + 1)) && ((zEr m).all fun bs => (wK m (m + 1)).contains (pkL m bs)) && (List.range (m + 1)).all (fun r => pw ((wK m (m + 1)).filter fun p => decide (p.length = r))) && ndB (wK m (m + 1))
theorem zuy : ∀ m ∈ ([0, 1, 2, 3, 4, 5, 6, 7, 8] : List Nat), zEp m = true := by decide +kernel
structure zIk (m : Nat) : Prop where
 perm : ((List.range (2 ^ m)).map (pkN m)).Perm (wK m (m + 1))
 all : ∀ bs : List Bool, bs.length = m -> pkL m bs ∈ wK m (m + 1)
 nd : (wK m (m + 1)).Nodup
 up : ∀ r, r <= m -> ((wK m (m + 1)).filter fun p => decide (p.length = r)).Pairwise qN
theorem zwx {m : Nat} (h : m <= 8) : zIk m := by
 have c : zEp m = true := zuy m (by
  have : m = 0 \/ m = 1 \/ m = 2 \/ m = 3 \/ m = 4 \/ m = 5 \/ m = 6 \/ m = 7 \/ m = 8 := by lia
  rcases this with rfl | rfl | rfl | rfl | rfl | rfl | rfl | rfl | rfl <;> decide)
 unfold zEp at c;rw [Q5, Q5, Q5, Jb, Jb] at c;obtain ⟨⟨⟨c1, c2⟩, c3⟩, c4⟩ := c;refine ⟨List.isPerm_iff.mp c1, fun bs hb => ?_, zvz c4, fun r hr => zAr (c3 r (Q0.mpr (by lia)))⟩;have := c2 bs (zll hb)
 simpa using this
theorem zdh (q : Int -> Bool) : ∀ l : List Int, l.filter q = ((l.zip (l.map q)).filter (·.2)).map (·.1)
 | [] => rfl
 | x :: l => by
  rw [Qm, List.zip_cons_cons];cases h : q x
  ·rw [Wh (by simp [h]), Wh (by simp), zdh q l]
  ·rw [Wq h, Wq (by simp), Qm, zdh q l]
theorem zln : ∀ {a b : List Int}, a.Pairwise (· < ·) -> b.Pairwise (· < ·) -> (∀ i, i ∈ a ↔ i ∈ b) -> a = b := fun {a b} h1 h2 h =>
 gN (vS (h1.imp fun z => by lia) (h2.imp fun z => by lia) h) (h1.imp fun z => by lia) (h2.imp fun z => by lia)
theorem kS {m : Nat} {ks : List Int} (h8 : m <= 8) (hk : Ks m ks) (up : ks.Pairwise (· < ·)) : ks ∈ wK m (m + 1) := by
 have e : ks = (ups m).filter fun i => decide (i ∈ ks) := zln up ((xS m).filter _) fun i => by
  rw [Qg, mem_ups, Qc];exact ⟨fun z => ⟨hk i z, z⟩, fun z => z.2⟩
 rw [e, zdh];exact (zwx h8).all _ (by rw [Qj, yP]; simp)
theorem zko : ∀ {a b : List Int}, HT.lexLt b a = false -> HT.lexLt a b = false -> a = b
 | [], [], _, _ => rfl
 | [], _ :: _, _, h => by cases h
 | _ :: _, [], h, _ => by cases h
 | x :: xs, y :: ys, h1, h2 => by
  rw [HT.lexLt_cons] at h1 h2;by_cases e : x = y
  ·rw [if_pos e.symm] at h1;rw [if_pos e] at h2;rw [e, zko h1 h2]
  ·rw [if_neg (Ne.symm e)] at h1;rw [if_neg e] at h2;have := Wj h1;have := Wj h2;lia
theorem zDg {l m : List (List Int)} (p : l.Perm m) (h1 : l.Pairwise qN) (h2 : m.Pairwise qN) : l = m := List.Perm.eq_of_pairwise (fun _ _ _ _ z1 z2 => zko z1 z2) h1 h2 p
theorem znz : ∀ {p : List Int}, zbb p = true -> p.Pairwise (· < ·)
 | [], _ => .nil
 | [x], _ => List.pairwise_singleton _ _
 | x :: y :: r, h => by
  have e : zbb (x :: y :: r) = (decide (x < y) && zbb (y :: r)) := rfl;rw [e, Q5, Qc] at h;have ih := znz h.2;refine .cons (fun z hz => ?_) ih;rcases Qs.mp hz with e | hz
  ·rw [e]; exact h.1
  ·have := (List.pairwise_cons.mp ih).1 z hz;lia
section
variable {n : Int} {ps : List (Int × Int)}
theorem xX (ks : List Int) : rkP n ps ks = n - cN n ps ks := rfl
theorem zid (n1 : 1 <= n) (n9 : n <= 9) (hb : ∀ p ∈ ps, InN n p) {ks : List Int} (hk : Ks ps.length ks) : rkP n ps ks = rk n ps ks := by
 rw [<- zya n1 n9 hb hk, zla ks _ hk];rfl
theorem xK (h8 : ps.length <= 8) {p : List Int} : p ∈ vJ ps ↔ Ks ps.length p /\ p.Pairwise (· < ·) := ⟨fun h => ⟨zab h8 h, znz (vV (zhd h8 h)).2.1⟩, fun h => kS h8 h.1 h.2⟩
theorem zaa (h8 : ps.length <= 8) : (wK ps.length (ps.length + 1)).Nodup := (zwx h8).nd
theorem zde (h8 : ps.length <= 8) {ks : List Int} (hk : Ks ps.length ks) (up : ks.Pairwise (· < ·)) : zow n ps ks = decide (ks ∈ zX n ps) := by
 unfold zow zX zas;rw [Jp, Q5, Qc, Qc, Qc, Qg, Qg, Qc, Qc];exact ⟨fun z => ⟨⟨kS h8 hk up, z.1⟩, z.2⟩, fun z => ⟨z.1.2, z.2⟩⟩
theorem znh (n1 : 1 <= n) (hb : ∀ p ∈ ps, InN n p) : ∀ (ks done sub : List Int), Ks ps.length ks -> Ks ps.length done -> sub.Sublist done -> cN n ps sub = cN n ps done -> (sub.length : Int) = n - cN n ps sub -> ∃ sub', sub'.Sublist (done ++ ks) /\ cN n ps sub' = cN n ps (done ++ ks) /\ (sub'.length : Int) = n - cN n ps sub'
 | [], done, sub, _, _, h1, h2, h3 => ⟨sub, by rw [Jw]; exact h1, by rw [Jw]; exact h2, h3⟩
 | k :: ks, done, sub, hk, hd, h1, h2, h3 => by
  obtain ⟨k0, kl⟩ := hk k Qk;have hk1 : Ks ps.length [k] := fun j hj => by rw [Qx.mp hj]; exact ⟨k0, kl⟩
  have hs : Ks ps.length sub := fun j hj => hd j (h1.subset hj);have a1 := zmr n1 hb [k] done hk1 hd;have a2 := zmr n1 hb [k] sub hk1 hs;have a3 := zxf n1 hb [k] sub done hk1 hs hd fun j hj => h1.subset hj;have e1 : (([k] : List Int).length : Int) = 1 := rfl;have hk' : Ks ps.length ks := fun j hj => hk j (Qy _ hj);by_cases c : cN n ps (done ++ [k]) = cN n ps done
  ·have := znh n1 hb ks (done ++ [k]) sub hk' (zR hd hk1) (h1.trans (List.sublist_append_left _ _)) (by lia) h3;rw [Jc] at this;exact this
  ·have := znh n1 hb ks (done ++ [k]) (sub ++ [k]) hk' (zR hd hk1) (h1.append (List.Sublist.refl _)) (by lia) (by rw [Q3]; simp; lia);rw [Jc] at this;exact this
theorem zst (n1 : 1 <= n) (n9 : n <= 9) (hb : ∀ p ∈ ps, InN n p) (h8 : ps.length <= 8) : zX n ps ≠ [] := by
 obtain ⟨sub, h1, h2, h3⟩ := znh n1 hb (ups ps.length) [] [] (wR _) (fun _ z => nomatch z) (List.Sublist.refl _) rfl (by rw [zmq n1 n9]; simp)
 rw [Wf] at h1 h2;have hk : Ks ps.length sub := fun j hj => wR _ j (h1.subset hj);have up : sub.Pairwise (· < ·) := (xS _).sublist h1;have t : zow n ps sub = true := by
  unfold zow zT;rw [Q5, Qc, Qc, xX, xX];lia
 rw [zde h8 hk up, Qc] at t;intro z;rw [z] at t;cases t
theorem xJ {p : List Int} (h : p ∈ zX n ps) : (p.length : Int) = zT n ps := by
 unfold zX zas at h;have := (Qg.mp (Qg.mp h).1).2;exact Jf this
theorem zep {p : List Int} (h : p ∈ zX n ps) : p ∈ vJ ps := (Qg.mp (Qg.mp h).1).1
theorem zss (n1 : 1 <= n) (n9 : n <= 9) (hb : ∀ p ∈ ps, InN n p) (h8 : ps.length <= 8) : (zX n ps).Pairwise qN := by
 have w := zli n1 n9 hb (wR ps.length);rw [yP] at w;have r0 : 0 <= zT n ps := by unfold zT; rw [xX]; exact w.1
 have r1 : zT n ps <= ps.length := by unfold zT; rw [xX]; simp at w; lia
 have u := (zwx h8).up (zT n ps).toNat (by lia);unfold zX zas;refine List.Pairwise.filter _ ?_;have e : ((vJ ps).filter fun p => decide ((p.length : Int) = zT n ps)) = ((wK ps.length (ps.length + 1)).filter fun p => decide (p.length = (zT n ps).toNat)) := by
  unfold vJ;apply W6;intro p _;rw [decide_eq_decide];lia
 rw [e];exact u
end
theorem k9 {α : Type} [DecidableEq α] : ∀ {l m : List α}, l.Nodup -> (∀ x ∈ l, x ∈ m) -> l.length <= m.length
 | [], _, _, _ => Jj _
 | a :: l, m, nd, h => by
  obtain ⟨n1, n2⟩ := Jy.mp nd;have ha := h a Qk;have := k9 (l := l) (m := m.erase a) n2 fun x hx => (List.mem_erase_of_ne (fun e => n1 (by rw [<- e]; exact hx))).mpr (h x (Qy _ hx));have e := List.length_erase_of_mem ha;have : 0 < m.length := List.length_pos_of_mem ha;rw [Jh];lia
structure PermOn (f : Nat -> Nat) (N : Nat) : Prop where
 lt : ∀ x, x < N -> f x < N
 inj : ∀ x y, x < N -> y < N -> f x = f y -> x = y
def itr (f : Nat -> Nat) (x : Nat) : Nat -> Nat
 | 0 => x
 | k + 1 => f (itr f x k)
theorem wP (f : Nat -> Nat) (x a : Nat) : ∀ b, itr f x (a + b) = itr f (itr f x a) b
 | 0 => rfl
 | b + 1 => by show f (itr f x (a + b)) = f (itr f (itr f x a) b); rw [wP f x a b]
theorem PermOn.itr_lt {f : Nat -> Nat} {N x : Nat} (P : PermOn f N) (hx : x < N) : ∀ k, itr f x k < N
 | 0 => hx
 | k + 1 => P.lt _ (P.itr_lt hx k)
theorem PermOn.itr_inj {f : Nat -> Nat} {N : Nat} (P : PermOn f N) : ∀ (k x y : Nat), x < N -> y < N -> itr f x k = itr f y k -> x = y
 | 0, x, y, _, _, h => h
 | k + 1, x, y, hx, hy, h => P.itr_inj k x y hx hy (P.inj _ _ (P.itr_lt hx k) (P.itr_lt hy k) h)
theorem zEx : ∀ (N : Nat) (g : Nat -> Nat), (∀ i, i <= N -> g i < N) -> ∃ i j, i < j /\ j <= N /\ g i = g j := fun N g h => by
 refine Classical.byContradiction fun hn => ?_;have inj : ∀ i j, i <= N -> j <= N -> g i = g j -> i = j := fun i j hi hj e => by
  by_cases c : i = j
  ·exact c
  ·exfalso;by_cases c2 : i < j
   ·exact hn ⟨i, j, c2, hj, e⟩
   ·exact hn ⟨j, i, by lia, hi, e.symm⟩
 have nd : ((List.range (N + 1)).map g).Nodup := by
  rw [Wu, Jt];refine List.pairwise_lt_range.imp_of_mem fun ha hb hab e => ?_;have h1 := Q0.mp ha;have h2 := Q0.mp hb;have := inj _ _ (by lia) (by lia) e;lia
 have len := k9 nd (m := List.range N) fun x hx => by
  obtain ⟨i, hi, rfl⟩ := Ql.mp hx;exact Q0.mpr (h i (by have := Q0.mp hi; lia))
 rw [Qj, Jk, Jk] at len;lia
theorem PermOn.back {f : Nat -> Nat} {N x : Nat} (P : PermOn f N) (hx : x < N) : ∃ k, 1 <= k /\ k <= N /\ itr f x k = x := by
 obtain ⟨i, j, hij, hj, e⟩ := zEx N (itr f x) fun i _ => P.itr_lt hx i;refine ⟨j - i, by lia, by lia, ?_⟩;have : itr f (itr f x (j - i)) i = itr f x i := by rw [<- wP, show j - i + i = j by lia, e]
 exact P.itr_inj i _ _ (P.itr_lt hx _) hx this
structure Per (f : Nat -> Nat) (x k : Nat) : Prop where
 pos : 1 <= k
 back : itr f x k = x
 no : ∀ i, 1 <= i -> i < k -> itr f x i ≠ x
theorem PermOn.per {f : Nat -> Nat} {N x : Nat} (P : PermOn f N) (hx : x < N) : ∃ k, k <= N /\ Per f x k := by
 obtain ⟨k, k1, kN, e⟩ := P.back hx;obtain ⟨m, hm, ⟨m1, me⟩, mn⟩ := zAv (fun k => 1 <= k /\ itr f x k = x) k ⟨k1, e⟩;exact ⟨m, by lia, m1, me, fun i h1 h2 z => mn i h2 ⟨h1, z⟩⟩
theorem Per.uniq {f : Nat -> Nat} {x a b : Nat} (h1 : Per f x a) (h2 : Per f x b) : a = b := by
 by_cases c : a < b
 ·exact absurd h1.back (h2.no a h1.pos c)
 ·by_cases c2 : b < a
  ·exact absurd h2.back (h1.no b h2.pos c2)
  ·lia
noncomputable def per (f : Nat -> Nat) (x : Nat) : Nat := open Classical in if h : ∃ k, Per f x k then Classical.choose h else 0
theorem zbc {f : Nat -> Nat} {x k : Nat} (h : Per f x k) : per f x = k := by
 unfold per;rw [dif_pos ⟨k, h⟩];exact (Classical.choose_spec (⟨k, h⟩ : ∃ k, Per f x k)).uniq h
noncomputable def rnd (f : Nat -> Nat) (x : Nat) : List Nat := (List.range (per f x)).map (itr f x)
inductive Cn (f : Nat -> Nat) (N : Nat) : Nat -> Nat -> Prop
 | refl (x : Nat) : Cn f N x x
 | step {x : Nat} : x < N -> Cn f N x (f x)
 | symm {x y : Nat} : Cn f N x y -> Cn f N y x
 | trans {x y z : Nat} : Cn f N x y -> Cn f N y z -> Cn f N x z
theorem zio {f : Nat -> Nat} {N x : Nat} (P : PermOn f N) (hx : x < N) : ∀ k, Cn f N x (itr f x k)
 | 0 => .refl x
 | k + 1 => .trans (zio P hx k) (.step (P.itr_lt hx k))
theorem zoh {f : Nat -> Nat} {x p : Nat} (h : Per f x p) : ∀ k, itr f x (k * p) = x
 | 0 => by rw [Nat.zero_mul]; rfl
 | k + 1 => by rw [Nat.succ_mul, wP, zoh h k, h.back]
theorem zch {f : Nat -> Nat} {x p : Nat} (h : Per f x p) (k : Nat) : itr f x k = itr f x (k % p) := by
 have e : k = (k / p) * p + k % p := by have := Nat.div_add_mod k p; rw [Nat.mul_comm] at this; lia
 have := wP f x (k / p * p) (k % p);rw [<- e, zoh h] at this;exact this
theorem zdj {f : Nat -> Nat} {N : Nat} (P : PermOn f N) {x y : Nat} (h : Cn f N x y) : (x < N ↔ y < N) /\ (x < N -> ∃ k, itr f x k = y) := by
 have main : (x < N ↔ y < N) /\ (x < N -> ∃ k, itr f x k = y) /\ (y < N -> ∃ k, itr f y k = x) := by
  induction h with
  | refl x => exact ⟨Iff.rfl, fun _ => ⟨0, rfl⟩, fun _ => ⟨0, rfl⟩⟩
  | @step x hx =>
   refine ⟨⟨fun _ => P.lt x hx, fun _ => hx⟩, fun _ => ⟨1, rfl⟩, fun _ => ?_⟩;obtain ⟨k, k1, _, e⟩ := P.back hx;refine ⟨k - 1, ?_⟩;have := wP f x 1 (k - 1);rw [show 1 + (k - 1) = k by lia, e] at this;exact this.symm
  | symm _ ih => exact ⟨ih.1.symm, ih.2.2, ih.2.1⟩
  | trans _ _ ih1 ih2 =>
   refine ⟨ih1.1.trans ih2.1, fun hx => ?_, fun hz => ?_⟩
   ·obtain ⟨a, ea⟩ := ih1.2.1 hx;obtain ⟨b, eb⟩ := ih2.2.1 (ih1.1.mp hx);exact ⟨a + b, by rw [wP, ea, eb]⟩
   ·obtain ⟨a, ea⟩ := ih2.2.2 hz;obtain ⟨b, eb⟩ := ih1.2.2 (ih2.1.mpr hz);exact ⟨a + b, by rw [wP, ea, eb]⟩
 exact ⟨main.1, main.2.1⟩
theorem wO {f : Nat -> Nat} {N x y : Nat} (P : PermOn f N) (hx : x < N) : y ∈ rnd f x ↔ Cn f N x y := by
 obtain ⟨p, _, hp⟩ := P.per hx;unfold rnd;rw [zbc hp, Ql];constructor
 ·rintro ⟨i, _, rfl⟩;exact zio P hx i
 ·intro h;obtain ⟨k, rfl⟩ := (zdj P h).2 hx;exact ⟨k % p, Q0.mpr (Nat.mod_lt _ hp.pos), (zch hp k).symm⟩
def swp (a b x : Nat) : Nat := if x = a then b else if x = b then a else x
theorem kO (a b : Nat) : swp a b a = b := by unfold swp; rw [if_pos rfl]
theorem zat (a b : Nat) : swp a b b = a := by unfold swp; split <;> simp_all
theorem qY {a b x : Nat} (h1 : x ≠ a) (h2 : x ≠ b) : swp a b x = x := by unfold swp; rw [if_neg h1, if_neg h2]
theorem gI (a b x : Nat) : swp a b (swp a b x) = x := by
 by_cases h1 : x = a
 ·rw [h1, kO, zat]
 ·by_cases h2 : x = b
  ·rw [h2, zat, kO]
  ·rw [qY h1 h2, qY h1 h2]
theorem zhj {a b x N : Nat} (ha : a < N) (hb : b < N) (hx : x < N) : swp a b x < N := by unfold swp; split <;> (try split) <;> assumption
theorem PermOn.swap {f : Nat -> Nat} {N a b : Nat} (P : PermOn f N) (ha : a < N) (hb : b < N) : PermOn (fun x => f (swp a b x)) N where
 lt x hx := P.lt _ (zhj ha hb hx)
 inj x y hx hy e := by
  have := P.inj _ _ (zhj ha hb hx) (zhj ha hb hy) e;rw [<- gI a b x, this, gI]
theorem vQ {f : Nat -> Nat} {N a b : Nat} (P : PermOn f N) (ha : a < N) (hb : b < N) (ne : ¬ Cn f N a b) (x y : Nat) :
  Cn (fun x => f (swp a b x)) N x y ↔ (Cn f N x y \/ (Cn f N x a /\ Cn f N y b) \/ (Cn f N x b /\ Cn f N y a)) := by
 have nab : a ≠ b := fun z => ne (z ▸ .refl a);have ab : Cn (fun x => f (swp a b x)) N a b := by
  obtain ⟨p, _, hp⟩ := P.per hb;have P' := P.swap ha hb;have go : ∀ k, k + 1 <= p -> itr (fun x => f (swp a b x)) a (k + 1) = itr f b (k + 1) := by
   intro k
   induction k with
   | zero => intro _; show f (swp a b a) = f b; rw [kO]
   | succ k ih =>
    intro hk;show f (swp a b (itr (fun x => f (swp a b x)) a (k + 1))) = f (itr f b (k + 1));rw [ih (by lia)];congr 1;refine qY (fun z => ?_) (hp.no (k + 1) (by lia) (by lia));refine ne ?_;rw [<- z];exact .symm (zio P hb (k + 1))
  have := go (p - 1) (by have := hp.pos; lia);rw [show p - 1 + 1 = p by have := hp.pos; lia, hp.back] at this;have c := zio P' ha p;rw [this] at c;exact c
 constructor
 ·intro h;have one : ∀ x, x < N -> (Cn f N x (f (swp a b x)) \/ (Cn f N x a /\ Cn f N (f (swp a b x)) b) \/ (Cn f N x b /\ Cn f N (f (swp a b x)) a)) := fun x hx => by
   by_cases h1 : x = a
   ·rw [h1, kO];exact .inr (.inl ⟨.refl a, .symm (.step hb)⟩)
   ·by_cases h2 : x = b
    ·rw [h2, zat];exact .inr (.inr ⟨.refl b, .symm (.step ha)⟩)
    ·rw [qY h1 h2];exact .inl (.step hx)
  induction h with
  | refl x => exact .inl (.refl x)
  | @step x hx => exact one x hx
  | symm _ ih =>
   rcases ih with h | ⟨h1, h2⟩ | ⟨h1, h2⟩
   ·exact .inl (.symm h)
   ·exact .inr (.inr ⟨h2, h1⟩)
   ·exact .inr (.inl ⟨h2, h1⟩)
  | trans _ _ ih1 ih2 =>
   rcases ih1 with h | ⟨h1, h2⟩ | ⟨h1, h2⟩ <;> rcases ih2 with k | ⟨k1, k2⟩ | ⟨k1, k2⟩
   ·exact .inl (.trans h k)
   ·exact .inr (.inl ⟨.trans h k1, k2⟩)
   ·exact .inr (.inr ⟨.trans h k1, k2⟩)
   ·exact .inr (.inl ⟨h1, .trans (.symm k) h2⟩)
   ·exact absurd (.trans (.symm k1) h2) ne
   ·exact .inl (.trans h1 (.symm k2))
   ·exact .inr (.inr ⟨h1, .trans (.symm k) h2⟩)
   ·exact .inl (.trans h1 (.symm k2))
   ·exact absurd (.trans (.symm h2) k1) ne
 ·have base : ∀ {x y}, Cn f N x y -> Cn (fun x => f (swp a b x)) N x y := fun h => by
   induction h with
   | refl x => exact .refl x
   | @step x hx =>
    by_cases h1 : x = a
    ·rw [h1];have := Cn.step (f := fun x => f (swp a b x)) hb;rw [zat] at this;exact .trans ab this
    ·by_cases h2 : x = b
     ·rw [h2];have := Cn.step (f := fun x => f (swp a b x)) ha;rw [kO] at this;exact .trans (.symm ab) this
     ·have := Cn.step (f := fun x => f (swp a b x)) hx;rw [qY h1 h2] at this;exact this
   | symm _ ih => exact .symm ih
   | trans _ _ ih1 ih2 => exact .trans ih1 ih2
  rintro (h | ⟨h1, h2⟩ | ⟨h1, h2⟩)
  ·exact base h
  ·exact .trans (base h1) (.trans ab (.symm (base h2)))
  ·exact .trans (base h1) (.trans (.symm ab) (.symm (base h2)))
theorem zpt {f : Nat -> Nat} {N a b : Nat} (P : PermOn f N) (ha : a < N) (hb : b < N) (nab : a ≠ b) (c : Cn f N a b) : ¬ Cn (fun x => f (swp a b x)) N a b := by
 obtain ⟨p, _, hp⟩ := P.per ha;obtain ⟨k0, e0⟩ := (zdj P c).2 ha;rw [zch hp] at e0;have kp : k0 % p < p := Nat.mod_lt _ hp.pos;generalize k0 % p = k at e0 kp;have k1 : 1 <= k := by
  by_cases z : k = 0
  ·rw [z] at e0; exact absurd e0 nab
  ·lia
 have dis : ∀ i j, i < j -> j < p -> itr f a i ≠ itr f a j := fun i j hij hj z => by
  have : itr f (itr f a (j - i)) i = itr f a i := by rw [<- wP, show j - i + i = j by lia, z]
  exact hp.no (j - i) (by lia) (by lia) (P.itr_inj i _ _ (P.itr_lt ha _) ha this)
 intro h;have inv : ∀ {x y}, Cn (fun x => f (swp a b x)) N x y -> ((∃ i, k < i /\ i <= p /\ itr f a i = x) ↔ ∃ i, k < i /\ i <= p /\ itr f a i = y) := fun h => by
  induction h with
  | refl x => exact Iff.rfl
  | @step x hx =>
   constructor
   ·rintro ⟨i, h1, h2, e⟩;by_cases ip : i = p
    ·have xa : x = a := by rw [<- e, ip, hp.back]
     rw [xa];rw [kO, <- e0];exact ⟨k + 1, by lia, by lia, rfl⟩
    ·have n1 : x ≠ a := fun z => hp.no i (by lia) (by lia) (by rw [e, z]);have n2 : x ≠ b := fun z => dis k i h1 (by lia) (by rw [e0, e, z]);rw [qY n1 n2, <- e];exact ⟨i + 1, by lia, by lia, rfl⟩
   ·rintro ⟨i, h1, h2, e⟩;have e' : f (itr f a (i - 1)) = f (swp a b x) := by
     rw [<- e];have := wP f a (i - 1) 1;rw [show i - 1 + 1 = i by lia] at this;exact this.symm
    have e2 := P.inj _ _ (P.itr_lt ha _) (zhj ha hb hx) e';by_cases ik : i - 1 = k
    ·rw [ik, e0] at e2;have xa : x = a := by
      rw [<- gI a b x, <- e2, zat]
     exact ⟨p, kp, Qw _, by rw [hp.back, xa]⟩
    ·have n1 : itr f a (i - 1) ≠ a := hp.no (i - 1) (by lia) (by lia);have n2 : itr f a (i - 1) ≠ b := fun z => dis k (i - 1) (by lia) (by lia) (by rw [e0, z]);have : x = itr f a (i - 1) := by
      rw [<- gI a b x, <- e2, qY n1 n2]
     exact ⟨i - 1, by lia, by lia, this.symm⟩
  | symm _ ih => exact ih.symm
  | trans _ _ ih1 ih2 => exact ih1.trans ih2
 obtain ⟨i, h1, h2, e⟩ := (inv h).mp ⟨p, kp, Qw _, hp.back⟩;by_cases ip : i = p
 ·rw [ip, hp.back] at e; exact nab e
 ·exact dis k i h1 (by lia) (by rw [e0, e])
theorem Cn.le {f : Nat -> Nat} {N : Nat} {T : Nat -> Nat -> Prop} (r : ∀ x, T x x) (s : ∀ x y, T x y -> T y x) (t : ∀ x y z, T x y -> T y z -> T x z) (h : ∀ x, x < N -> T x (f x)) {x y : Nat} (c : Cn f N x y) : T x y := by
 induction c with
 | refl x => exact r x
 | step hx => exact h _ hx
 | symm _ ih => exact s _ _ ih
 | trans _ _ ih1 ih2 => exact t _ _ _ ih1 ih2
theorem Cn.congr {f g : Nat -> Nat} {N : Nat} (h : ∀ x, x < N -> f x = g x) (x y : Nat) : Cn f N x y ↔ Cn g N x y :=
 ⟨Cn.le .refl (fun _ _ => .symm) (fun _ _ _ => .trans) fun x hx => by rw [h x hx]; exact .step hx, Cn.le .refl (fun _ _ => .symm) (fun _ _ _ => .trans) fun x hx => by rw [<- h x hx]; exact .step hx⟩
theorem PermOn.congr {f g : Nat -> Nat} {N : Nat} (P : PermOn f N) (h : ∀ x, x < N -> f x = g x) : PermOn g N :=
 ⟨fun x hx => by rw [<- h x hx]; exact P.lt x hx, fun x y hx hy e => P.inj x y hx hy (by rw [h x hx, h y hy, e])⟩
theorem PermOn.sur {f : Nat -> Nat} {N z : Nat} (P : PermOn f N) (hz : z < N) : ∃ u, u < N /\ f u = z := by
 obtain ⟨k, k1, _, e⟩ := P.back hz;refine ⟨itr f z (k - 1), P.itr_lt hz _, ?_⟩;have := wP f z (k - 1) 1;rw [show k - 1 + 1 = k by lia, e] at this;exact this.symm
structure Equ (R : Nat -> Nat -> Prop) : Prop where
 r : ∀ x, R x x
 s : ∀ {x y}, R x y -> R y x
 t : ∀ {x y z}, R x y -> R y z -> R x z
theorem vH (f : Nat -> Nat) (N : Nat) : Equ (Cn f N) := ⟨.refl, .symm, .trans⟩
noncomputable def zef (R : Nat -> Nat -> Prop) (x : Nat) : Bool := open Classical in decide (∀ y, y < x -> ¬ R x y)
theorem isRep_iff {R : Nat -> Nat -> Prop} {x : Nat} : zef R x = true ↔ ∀ y, y < x -> ¬ R x y := by
 classical
 unfold zef;rw [Qc]
noncomputable def wA (N : Nat) (R : Nat -> Nat -> Prop) : List Nat := (List.range N).filter (zef R)
theorem mem_reps {N : Nat} {R : Nat -> Nat -> Prop} {x : Nat} : x ∈ wA N R ↔ x < N /\ ∀ y, y < x -> ¬ R x y := by
 unfold wA;rw [Qg, Q0];exact and_congr Iff.rfl isRep_iff
theorem gM (N : Nat) (R : Nat -> Nat -> Prop) : (wA N R).Nodup := List.Pairwise.filter _ List.nodup_range
theorem qV {N : Nat} {R : Nat -> Nat -> Prop} (e : Equ R) {x y : Nat} (hx : x ∈ wA N R) (hy : y ∈ wA N R) (h : R x y) : x = y := by
 by_cases c : x < y
 ·exact absurd (e.s h) ((mem_reps.mp hy).2 x c)
 ·by_cases c2 : y < x
  ·exact absurd h ((mem_reps.mp hx).2 y c2)
  ·lia
theorem kH {N : Nat} {R : Nat -> Nat -> Prop} (e : Equ R) {x : Nat} (hx : x < N) : ∃ r, r <= x /\ R x r /\ r ∈ wA N R := by
 obtain ⟨r, h1, h2, h3⟩ := zAv (fun y => R x y) x (e.r x);exact ⟨r, h1, h2, mem_reps.mpr ⟨by lia, fun y hy z => h3 y hy (e.t h2 z)⟩⟩
theorem zks {N a b ra rb : Nat} {R R' : Nat -> Nat -> Prop} (e : Equ R) (h : ∀ x y, R' x y ↔ (R x y \/ (R x a /\ R y b) \/ (R x b /\ R y a))) (h1 : R a ra) (h2 : R b rb) (m1 : ra ∈ wA N R) (m2 : rb ∈ wA N R) (lt : ra < rb) : (wA N R').length + 1 = (wA N R).length := by
 have p : (wA N R).Perm (rb :: wA N R') := by
  refine (Wx (gM N R) (Jy.mpr ⟨fun z => ?_, gM N R'⟩)).mpr fun x => ?_
  ·exact (mem_reps.mp z).2 ra lt ((h rb ra).mpr (.inr (.inr ⟨e.s h2, e.s h1⟩)))
  ·rw [Qs];constructor
   ·intro hx;by_cases c : x = rb
    ·exact .inl c
    ·refine .inr (mem_reps.mpr ⟨(mem_reps.mp hx).1, fun y hy z => ?_⟩);rcases (h x y).mp z with z | ⟨z1, z2⟩ | ⟨z1, z2⟩
     ·exact (mem_reps.mp hx).2 y hy z
     ·have := qV e hx m1 (e.t z1 h1);subst this;exact (mem_reps.mp m2).2 y (by lia) (e.t (e.s h2) (e.s z2))
     ·exact c (qV e hx m2 (e.t z1 h2))
   ·rintro (rfl | hx)
    ·exact m2
    ·exact mem_reps.mpr ⟨(mem_reps.mp hx).1, fun y hy z => (mem_reps.mp hx).2 y hy ((h x y).mpr (.inl z))⟩
 have := p.length_eq;rw [Jh] at this;lia
theorem zdd {N a b : Nat} {R R' : Nat -> Nat -> Prop} (e : Equ R) (ha : a < N) (hb : b < N) (ne : ¬ R a b) (h : ∀ x y, R' x y ↔ (R x y \/ (R x a /\ R y b) \/ (R x b /\ R y a))) : (wA N R').length + 1 = (wA N R).length := by
 obtain ⟨ra, _, h1, m1⟩ := kH (N := N) e ha;obtain ⟨rb, _, h2, m2⟩ := kH (N := N) e hb;by_cases c : ra < rb
 ·exact zks e h h1 h2 m1 m2 c
 ·have ne2 : ra ≠ rb := fun z => ne (e.t h1 (e.s (z ▸ h2)));refine zks (a := b) (b := a) e (fun x y => (h x y).trans ?_) h2 h1 m2 m1 (by lia);constructor
  ·rintro (z | z | z)
   ·exact .inl z
   ·exact .inr (.inr z)
   ·exact .inr (.inl z)
  ·rintro (z | z | z)
   ·exact .inl z
   ·exact .inr (.inr z)
   ·exact .inr (.inl z)
theorem zwh {l m : List Nat} (nd : l.Nodup) (T : Nat -> Nat -> Prop) (h : ∀ x ∈ l, ∃ z, z ∈ m /\ T x z) (inj : ∀ x y z, x ∈ l -> y ∈ l -> T x z -> T y z -> x = y) : l.length <= m.length := by
 have : ∃ g : Nat -> Nat, ∀ x ∈ l, g x ∈ m /\ T x (g x) := by
  refine ⟨fun x => open Classical in if q : ∃ z, z ∈ m /\ T x z then Classical.choose q else 0, fun x hx => ?_⟩;dsimp only;rw [dif_pos (h x hx)];exact Classical.choose_spec (h x hx)
 obtain ⟨g, hg⟩ := this;have nd2 : (l.map g).Nodup := by
  rw [Wu, Jt];refine nd.imp_of_mem fun ha hb hab e => hab ?_;exact inj _ _ _ ha hb (hg _ ha).2 (by rw [e]; exact (hg _ hb).2)
 have := k9 nd2 (m := m) fun x hx => by
  obtain ⟨y, hy, rfl⟩ := Ql.mp hx;exact (hg y hy).1
 rw [Qj] at this;exact this
theorem zpj {N : Nat} {τ : Nat -> Nat} {R R' : Nat -> Nat -> Prop} (P : PermOn τ N) (e : Equ R) (e' : Equ R') (h : ∀ x y, x < N -> y < N -> (R' (τ x) (τ y) ↔ R x y)) : (wA N R).length = (wA N R').length := by
 refine Nat.le_antisymm ?_ ?_
 ·refine zwh (gM N R) (fun x z => R' (τ x) z) (fun x hx => ?_) fun x y z hx hy h1 h2 => ?_
  ·obtain ⟨r, _, h2, h3⟩ := kH (N := N) e' (P.lt x (mem_reps.mp hx).1);exact ⟨r, h3, h2⟩
  ·exact qV e hx hy ((h x y (mem_reps.mp hx).1 (mem_reps.mp hy).1).mp (e'.t h1 (e'.s h2)))
 ·refine zwh (gM N R') (fun z x => R' z (τ x)) (fun z hz => ?_) fun x y z hx hy h1 h2 => ?_
  ·obtain ⟨u, hu, eu⟩ := P.sur (mem_reps.mp hz).1;obtain ⟨r, _, h2, h3⟩ := kH (N := N) e hu;exact ⟨r, h3, by rw [<- eu]; exact (h u r hu (mem_reps.mp h3).1).mpr h2⟩
  ·exact qV e' hx hy (e'.t h1 (e'.s h2))
theorem zjy (N : Nat) (R : Nat -> Nat -> Prop) : wA (N + 2) R = wA N R ++ [N, N + 1].filter (zef R) := by
 unfold wA;rw [Wv, Wv, Jc, Wz];rfl
theorem wS {N : Nat} {R R' : Nat -> Nat -> Prop} (h : ∀ x y, x < N -> y < N -> (R x y ↔ R' x y)) : wA N R = wA N R' := by
 unfold wA;refine W6 fun x hx => ?_;have hx' := Q0.mp hx;rw [Jp, isRep_iff, isRep_iff];exact ⟨fun a y hy z => a y hy ((h x y hx' (by lia)).mpr z), fun a y hy z => a y hy ((h x y hx' (by lia)).mp z)⟩
def fn (ts : List Nat) (i : Nat) : Nat := ts.getD i 0
def mate (x : Nat) : Nat := if x % 2 = 0 then x + 1 else x - 1
theorem yK (x : Nat) : mate (mate x) = x := by
 unfold mate;by_cases h : x % 2 = 0
 ·rw [if_pos h, if_neg (by lia)]; lia
 ·rw [if_neg h, if_pos (by lia)]; lia
theorem zV {x m : Nat} (h : x < 2 * m) : mate x < 2 * m := by unfold mate; split <;> lia
theorem zyo (x : Nat) : mate x ≠ x := by unfold mate; split <;> lia
def phi (ts : List Nat) (x : Nat) : Nat := fn ts (mate x)
theorem PermOn.phi {ts : List Nat} {m : Nat} (P : PermOn (fn ts) (2 * m)) : PermOn (phi ts) (2 * m) :=
 ⟨fun x hx => P.lt _ (zV hx), fun x y hx hy e => by
  have := P.inj _ _ (zV hx) (zV hy) e;rw [<- yK x, this, yK]⟩
inductive Jn (ts : List Nat) : Nat -> Nat -> Prop
 | refl (x : Nat) : Jn ts x x
 | turn {x : Nat} : x < ts.length -> Jn ts x (fn ts x)
 | mate (x : Nat) : Jn ts x (mate x)
 | symm {x y : Nat} : Jn ts x y -> Jn ts y x
 | trans {x y z : Nat} : Jn ts x y -> Jn ts y z -> Jn ts x z
noncomputable def nV (ts : List Nat) : Nat := (wA ts.length (Cn (fn ts) ts.length)).length
noncomputable def nF (ts : List Nat) : Nat := (wA ts.length (Cn (phi ts) ts.length)).length
structure Drw (ts : List Nat) (m : Nat) : Prop where
 len : ts.length = 2 * m
 perm : PermOn (fn ts) (2 * m)
 joined : ∀ x, x < 2 * m -> Jn ts x 0
 plane : m = 0 \/ nV ts + nF ts = m + 2
def yN (l : List Nat) (e p : Nat) : List Nat := (l.set p (l.getD e 0)).set e p
theorem xP (l : List Nat) (e p : Nat) : (yN l e p).length = l.length := by unfold yN; rw [List.length_set, List.length_set]
theorem zrm {l : List Nat} {e p : Nat} (he : e < l.length) (hp : p < l.length) (hf : fn l p = p) (x : Nat) : fn (yN l e p) x = fn l (swp e p x) := by
 unfold yN fn;rw [Qd];by_cases h1 : x = e
 ·rw [h1, kO, W4 (by rw [List.length_set]; exact he)];exact hf.symm
 ·rw [List.getElem?_set_ne (Ne.symm h1)];by_cases h2 : x = p
  ·rw [h2, zat, W4 hp];rfl
  ·rw [List.getElem?_set_ne (Ne.symm h2), qY h1 h2, Qd]
def two (ts : List Nat) : List Nat := ts ++ [ts.length, ts.length + 1]
theorem jE {ts : List Nat} {x : Nat} (h : x < ts.length) : fn (two ts) x = fn ts x := by
 unfold fn two;rw [Qd, List.getElem?_append_left h, Qd]
theorem qD {ts : List Nat} {x : Nat} (h : x = ts.length \/ x = ts.length + 1) : fn (two ts) x = x := by
 unfold fn two;rw [Qd, List.getElem?_append_right (by lia)];rcases h with e | e <;> rw [e]
 ·rw [Nat.sub_self]; rfl
 ·rw [show ts.length + 1 - ts.length = 1 by lia]; rfl
theorem jF (ts : List Nat) : (two ts).length = ts.length + 2 := by unfold two; simp
theorem kL {ts : List Nat} {m : Nat} (hl : ts.length = 2 * m) (P : PermOn (fn ts) (2 * m)) : PermOn (fn (two ts)) (2 * (m + 1)) := by
 have cs : ∀ x, x < 2 * (m + 1) -> (x < ts.length /\ fn (two ts) x = fn ts x /\ fn ts x < ts.length) \/ (x = ts.length \/ x = ts.length + 1) /\ fn (two ts) x = x := fun x hx => by
  by_cases c : x < ts.length
  ·exact .inl ⟨c, jE c, by rw [hl]; exact P.lt x (by lia)⟩
  ·have : x = ts.length \/ x = ts.length + 1 := by lia
   exact .inr ⟨this, qD this⟩
 refine ⟨fun x hx => ?_, fun x y hx hy e => ?_⟩
 ·rcases cs x hx with ⟨a, b, c⟩ | ⟨a, b⟩
  ·rw [b]; lia
  ·rw [b]; exact hx
 ·rcases cs x hx with ⟨a, b, c⟩ | ⟨a, b⟩ <;> rcases cs y hy with ⟨a', b', c'⟩ | ⟨a', b'⟩
  ·exact P.inj x y (by lia) (by lia) (by rw [<- b, <- b', e])
  ·rw [b, b'] at e; lia
  ·rw [b, b'] at e; lia
  ·rw [b, b'] at e; exact e
theorem qJ {ts : List Nat} {m : Nat} (hl : ts.length = 2 * m) (P : PermOn (fn ts) (2 * m)) (x y : Nat) : Cn (fn (two ts)) (2 * (m + 1)) x y ↔ (x < 2 * m /\ y < 2 * m /\ Cn (fn ts) (2 * m) x y) \/ x = y := by
 constructor
 ·refine Cn.le (T := fun x y => (x < 2 * m /\ y < 2 * m /\ Cn (fn ts) (2 * m) x y) \/ x = y) (fun x => .inr rfl) (fun x y h => ?_) (fun x y z h1 h2 => ?_) (fun x hx => ?_)
  ·rcases h with ⟨a, b, c⟩ | h
   ·exact .inl ⟨b, a, .symm c⟩
   ·exact .inr h.symm
  ·rcases h1 with ⟨a, b, c⟩ | rfl
   ·rcases h2 with ⟨a', b', c'⟩ | rfl
    ·exact .inl ⟨a, b', .trans c c'⟩
    ·exact .inl ⟨a, b, c⟩
   ·exact h2
  ·by_cases c : x < ts.length
   ·rw [jE c];exact .inl ⟨by lia, P.lt x (by lia), .step (by lia)⟩
   ·rw [qD (by lia)];exact .inr rfl
 ·rintro (⟨a, b, c⟩ | rfl)
  ·refine Cn.le (T := Cn (fn (two ts)) (2 * (m + 1))) .refl (fun _ _ => .symm) (fun _ _ _ => .trans) (fun z hz => ?_) c;rw [<- jE (ts := ts) (by lia)];exact .step (by lia)
  ·exact .refl _
theorem vL {ts : List Nat} {m : Nat} (hl : ts.length = 2 * m) (P : PermOn (fn ts) (2 * m)) (x y : Nat) : Cn (phi (two ts)) (2 * (m + 1)) x y ↔ (x < 2 * m /\ y < 2 * m /\ Cn (phi ts) (2 * m) x y) \/ ((x = 2 * m \/ x = 2 * m + 1) /\ (y = 2 * m \/ y = 2 * m + 1)) \/ x = y := by
 constructor
 ·refine Cn.le (T := fun x y => (x < 2 * m /\ y < 2 * m /\ Cn (phi ts) (2 * m) x y) \/ ((x = 2 * m \/ x = 2 * m + 1) /\ (y = 2 * m \/ y = 2 * m + 1)) \/ x = y) (fun x => .inr (.inr rfl)) (fun x y h => ?_) (fun x y z h1 h2 => ?_) (fun x hx => ?_)
  ·rcases h with ⟨a, b, c⟩ | ⟨a, b⟩ | h
   ·exact .inl ⟨b, a, .symm c⟩
   ·exact .inr (.inl ⟨b, a⟩)
   ·exact .inr (.inr h.symm)
  ·rcases h1 with ⟨a, b, c⟩ | ⟨a, b⟩ | rfl
   ·rcases h2 with ⟨a', b', c'⟩ | ⟨a', b'⟩ | rfl
    ·exact .inl ⟨a, b', .trans c c'⟩
    ·lia
    ·exact .inl ⟨a, b, c⟩
   ·rcases h2 with ⟨a', b', c'⟩ | ⟨a', b'⟩ | rfl
    ·lia
    ·exact .inr (.inl ⟨a, b'⟩)
    ·exact .inr (.inl ⟨a, b⟩)
   ·exact h2
  ·by_cases c : x < 2 * m
   ·have hm := zV (m := m) c;have e : phi (two ts) x = phi ts x := jE (ts := ts) (x := mate x) (by lia);rw [e];exact .inl ⟨c, P.phi.lt x c, .step c⟩
   ·have hx2 : x = 2 * m \/ x = 2 * m + 1 := by lia
    have hm : mate x = 2 * m \/ mate x = 2 * m + 1 := by
     unfold mate;split <;> lia
    have e : phi (two ts) x = mate x := qD (ts := ts) (x := mate x) (by lia);rw [e];exact .inr (.inl ⟨hx2, hm⟩)
 ·rintro (⟨a, b, c⟩ | ⟨a, b⟩ | rfl)
  ·refine Cn.le (T := Cn (phi (two ts)) (2 * (m + 1))) .refl (fun _ _ => .symm) (fun _ _ _ => .trans) (fun z hz => ?_) c;have e : phi (two ts) z = phi ts z := jE (ts := ts) (x := mate z) (by have := zV (m := m) hz; lia);rw [<- e];exact .step (by lia)
  ·have st : Cn (phi (two ts)) (2 * (m + 1)) (2 * m) (2 * m + 1) := by
    have e : phi (two ts) (2 * m) = 2 * m + 1 := by
     have : mate (2 * m) = 2 * m + 1 := by unfold mate; rw [if_pos (by lia)]
     show fn (two ts) (mate (2 * m)) = _;rw [this, qD (by lia)]
    have := Cn.step (f := phi (two ts)) (N := 2 * (m + 1)) (x := 2 * m) (by lia);rw [e] at this;exact this
   rcases a with rfl | rfl <;> rcases b with rfl | rfl
   ·exact .refl _
   ·exact st
   ·exact .symm st
   ·exact .refl _
  ·exact .refl _
theorem zhg {ts : List Nat} {m : Nat} (hl : ts.length = 2 * m) (P : PermOn (fn ts) (2 * m)) : nV (two ts) = nV ts + 2 := by
 unfold nV;rw [jF, hl, zjy, Q3, show 2 * m + 2 = 2 * (m + 1) by lia];congr 1
 ·congr 1;refine wS fun x y hx hy => ?_;rw [qJ hl P];exact ⟨fun z => z.elim (fun z => z.2.2) fun z => z ▸ .refl x, fun z => .inl ⟨hx, hy, z⟩⟩
 ·rw [Wq, Wq]
  ·rfl
  ·refine isRep_iff.mpr fun y hy z => ?_;rcases (qJ hl P _ _).mp z with ⟨a, _⟩ | a <;> lia
  ·refine isRep_iff.mpr fun y hy z => ?_;rcases (qJ hl P _ _).mp z with ⟨a, _⟩ | a <;> lia
theorem zhh {ts : List Nat} {m : Nat} (hl : ts.length = 2 * m) (P : PermOn (fn ts) (2 * m)) : nF (two ts) = nF ts + 1 := by
 unfold nF;rw [jF, hl, zjy, Q3, show 2 * m + 2 = 2 * (m + 1) by lia];congr 1
 ·congr 1;refine wS fun x y hx hy => ?_;rw [vL hl P];exact ⟨fun z => z.elim (fun z => z.2.2) fun z => z.elim (fun z => by lia) fun z => z ▸ .refl x, fun z => .inl ⟨hx, hy, z⟩⟩
 ·rw [Wq, Wh]
  ·rfl
  ·intro h;refine isRep_iff.mp h (2 * m) (by lia) ((vL hl P _ _).mpr (.inr (.inl ⟨.inr rfl, .inl rfl⟩)))
  ·refine isRep_iff.mpr fun y hy z => ?_;rcases (vL hl P _ _).mp z with ⟨a, _⟩ | ⟨a, b⟩ | a <;> lia
end My
namespace My
open PySem L2 PyProof.Rows
def sg (g : Nat -> Nat) : Nat -> Nat
 | 0 => 0
 | N + 1 => sg g N + g N
theorem zgq (g : Nat -> Nat) : ∀ N, sg g N = ((List.range N).map g).sum
 | 0 => rfl
 | N + 1 => by
  show sg g N + g N = _;rw [Wv, Qu, List.sum_append, zgq g N];simp
theorem zcv {g h : Nat -> Nat} : ∀ {N : Nat}, (∀ x, x < N -> g x = h x) -> sg g N = sg h N
 | 0, _ => rfl
 | N + 1, e => by
  show sg g N + g N = sg h N + h N;rw [zcv fun x hx => e x (by lia), e N (by lia)]
theorem zvq (g h : Nat -> Nat) : ∀ N, sg (fun x => g x + h x) N = sg g N + sg h N
 | 0 => rfl
 | N + 1 => by
  show sg (fun x => g x + h x) N + (g N + h N) = sg g N + g N + (sg h N + h N);rw [zvq g h N]; lia
theorem zxr {f : Nat -> Nat} {N : Nat} (P : PermOn f N) (g : Nat -> Nat) : sg (fun x => g (f x)) N = sg g N := by
 rw [zgq, zgq];have e : (List.range N).map (fun x => g (f x)) = ((List.range N).map f).map g := by rw [Wr]; rfl
 have p : ((List.range N).map f).Perm (List.range N) := by
  refine (Wx ?_ List.nodup_range).mpr fun z => ?_
  ·unfold List.Nodup;rw [Jt];exact List.nodup_range.imp_of_mem fun hx hy ne z => ne (P.inj _ _ (Q0.mp hx) (Q0.mp hy) z)
  ·rw [Ql, Q0];constructor
   ·rintro ⟨x, hx, rfl⟩; exact P.lt x (Q0.mp hx)
   ·intro hz;obtain ⟨u, hu, eu⟩ := P.sur hz;exact ⟨u, Q0.mpr hu, eu⟩
 rw [e];exact (p.map g).sum_nat
theorem zvp (g : Nat -> Nat) : ∀ m, sg g (2 * m) = sg (fun j => g (2 * j) + g (2 * j + 1)) m
 | 0 => rfl
 | m + 1 => by
  show sg g (2 * m + 1) + g (2 * m + 1) = _;show sg g (2 * m) + g (2 * m) + g (2 * m + 1) = sg _ m + (g (2 * m) + g (2 * m + 1));rw [zvp g m]; lia
theorem znu {h : Nat -> Nat} {k : Nat} : ∀ m, (∀ j, j < m -> j ≠ k -> h j % 2 = 0) -> sg h m % 2 = if k < m then h k % 2 else 0
 | 0, _ => rfl
 | m + 1, e => by
  have ih := znu m fun j hj ne => e j (by lia) ne;show (sg h m + h m) % 2 = _;by_cases c : m = k
  ·subst c;rw [if_neg (by lia)] at ih;rw [if_pos (by lia)];lia
  ·have := e m (by lia) c;by_cases d : k < m
   ·rw [if_pos d] at ih; rw [if_pos (by lia)]; lia
   ·rw [if_neg d] at ih; rw [if_neg (by lia)]; lia
theorem zHw {f s c : Nat -> Nat} {m k : Nat} (P : PermOn f (2 * m)) (hs : ∀ e, e < 2 * m -> s (f e) = s e) (hc : ∀ e, e < 2 * m -> c (mate e) = c (f e))
  (hk : k < m) (ev : ∀ j, j < m -> j ≠ k -> (s (2 * j) = s (2 * j + 1) \/ c (2 * j) = c (2 * j + 1))) : ((s (2 * k) + s (2 * k + 1)) * (c (2 * k) + c (2 * k + 1))) % 2 = 0 := by
 have h1 : sg (fun e => s e * c (mate e)) (2 * m) = sg (fun e => s e * c e) (2 * m) := by
  rw [<- zxr P (fun e => s e * c e)];exact zcv fun e he => by rw [hs e he, hc e he]
 have h2 := zvq (fun e => s e * c e) (fun e => s e * c (mate e)) (2 * m);rw [h1, zvp] at h2;have h3 : sg (fun j => (s (2 * j) * c (2 * j) + s (2 * j) * c (mate (2 * j))) + (s (2 * j + 1) * c (2 * j + 1) + s (2 * j + 1) * c (mate (2 * j + 1)))) m = sg (fun j => (s (2 * j) + s (2 * j + 1)) * (c (2 * j) + c (2 * j + 1))) m := zcv fun j hj => by
  have m1 : mate (2 * j) = 2 * j + 1 := by unfold mate; rw [if_pos (by lia)]
  have m2 : mate (2 * j + 1) = 2 * j := by unfold mate; rw [if_neg (by lia)]; lia
  rw [m1, m2, Nat.add_mul, Nat.mul_add, Nat.mul_add];lia
 have h4 := znu (h := fun j => (s (2 * j) + s (2 * j + 1)) * (c (2 * j) + c (2 * j + 1))) (k := k) m fun j hj ne => by
  rcases ev j hj ne with e | e
  ·rw [e, <- Nat.two_mul, Nat.mul_assoc]; exact Nat.mul_mod_right _ _
  ·rw [e, <- Nat.two_mul, Nat.mul_comm, Nat.mul_assoc]; exact Nat.mul_mod_right _ _
 rw [if_pos hk] at h4;have h5 := h3.symm.trans h2;rw [h5] at h4;lia
structure Dual (m : Nat) (f : Nat -> Nat) (P L : Nat -> Int) (n1 n2 : Int) (ps qs : List (Int × Int)) : Prop where
 perm : PermOn f (2 * m)
 pf : ∀ e, e < 2 * m -> P (f e) = P e
 lf : ∀ e, e < 2 * m -> L (mate e) = L (f e)
 lp : ps.length = m
 lq : qs.length = m
 hp : ∀ k, k < m -> yE ps k = wD (P (2 * k), P (2 * k + 1))
 hq : ∀ k, k < m -> yE qs k = wD (L (2 * k), L (2 * k + 1))
theorem Dual.symm {m : Nat} {f : Nat -> Nat} {P L : Nat -> Int} {n1 n2 : Int} {ps qs : List (Int × Int)} (D : Dual m f P L n1 n2 ps qs) : Dual m (fun e => f (mate e)) L P n2 n1 qs ps where
 perm := ⟨fun x hx => D.perm.lt _ (zV hx), fun x y hx hy e => by
  have := D.perm.inj _ _ (zV hx) (zV hy) e;rw [<- yK x, this, yK]⟩
 pf e he := by
  have := D.lf _ (zV he);rw [yK] at this;exact this.symm
 lf e he := (D.pf _ (zV he)).symm
 lp := D.lq
 lq := D.lp
 hp := D.hq
 hq := D.hp
theorem zce {hs : List Int} {p : Int × Int} : (at0 hs (wD p).1 = at0 hs (wD p).2) ↔ at0 hs p.1 = at0 hs p.2 := by
 rcases wW p with ⟨e1, e2⟩ | ⟨e1, e2⟩ <;> rw [e1, e2];exact eq_comm
section
variable {m : Nat} {f : Nat -> Nat} {P L : Nat -> Int} {n1 n2 : Int} {ps qs : List (Int × Int)}
theorem Dual.one (D : Dual m f P L n1 n2 ps qs) {A B hs gs : List Int} (G1 : GH n1 ps A hs) (G2 : GH n2 qs B gs) {k : Nat} (hk : k < m)
  (all : ∀ j : Nat, j < m -> j ≠ k -> ((j : Int) ∈ A \/ (j : Int) ∈ B)) (ne : ¬ at0 hs (yE ps k).1 = at0 hs (yE ps k).2) : at0 gs (yE qs k).1 = at0 gs (yE qs k).2 := by
 rw [D.hp k hk, zce] at ne;rw [D.hq k hk, zce];have key := zHw (f := f) (s := fun e => if at0 hs (P e) = at0 hs (P (2 * k)) then 1 else 0) (c := fun e => if at0 gs (L e) = at0 gs (L (2 * k)) then 1 else 0) (m := m) (k := k) D.perm
  (fun e he => by rw [D.pf e he]) (fun e he => by rw [D.lf e he]) hk (fun j hj nj => by
   rcases all j hj nj with z | z
   ·have := G1.join _ z;rw [D.hp j hj, zce] at this;left
    rw [show at0 hs (P (2 * j)) = at0 hs (P (2 * j + 1)) from this]
   ·have := G2.join _ z;rw [D.hq j hj, zce] at this;right
    rw [show at0 gs (L (2 * j)) = at0 gs (L (2 * j + 1)) from this])
 dsimp only at key ne ⊢;rw [if_pos rfl, if_pos rfl, if_neg fun z => ne z.symm] at key;by_cases c : at0 gs (L (2 * k + 1)) = at0 gs (L (2 * k))
 ·exact c.symm
 ·rw [if_neg c] at key;exact absurd key (by decide)
theorem Dual.gain (D : Dual m f P L n1 n2 ps qs) (h1 : 1 <= n1) (h2 : 1 <= n2) (hb1 : ∀ p ∈ ps, InN n1 p) (hb2 : ∀ p ∈ qs, InN n2 p) : ∀ (E A B : List Int), Ks m E -> Ks m A -> Ks m B -> (∀ j : Nat, j < m -> (j : Int) ∈ A \/ (j : Int) ∈ E \/ (j : Int) ∈ B) ->
  (cN n1 ps A - cN n1 ps (A ++ E)) + (cN n2 qs B - cN n2 qs (B ++ E)) <= E.length
 | [], A, B, _, _, _, _ => by simp
 | d :: E, A, B, hE, hA, hB, all => by
  obtain ⟨d0, dl⟩ := hE d Qk;have hd1 : Ks m [d] := fun k hk => by rw [Qx.mp hk]; exact ⟨d0, dl⟩
  have hE' : Ks m E := fun k hk => hE k (Qy _ hk);have ih := D.gain h1 h2 hb1 hb2 E (A ++ [d]) B hE' (zR hA hd1) hB fun j hj => by
   rcases all j hj with z | z | z
   ·exact .inl (Qn _ z)
   ·rcases Qs.mp z with y | y
    ·exact .inl (Qp _ (Qx.mpr y))
    ·exact .inr (.inl y)
   ·exact .inr (.inr z)
  rw [Jc] at ih;have lp := D.lp;have lq := D.lq;have kA : Ks ps.length A := by rw [lp]; exact hA
  have kB : Ks qs.length (B ++ E) := by rw [lq]; exact zR hB hE'
  have c1 := qM h1 hb1 kA d0 (by lia);have c2 := qM h2 hb2 kB d0 (by lia);have e2 : cN n2 qs (B ++ d :: E) = cN n2 qs (B ++ E ++ [d]) := zbg h2 hb2 (by rw [lq]; exact zR hB hE) (by rw [lq]; exact zR (zR hB hE') hd1) fun k => by
   simp only [Qr, Qs, Qx, List.not_mem_nil, or_false];constructor
   ·rintro (z | z | z)
    ·exact .inl (.inl z)
    ·exact .inr z
    ·exact .inl (.inr z)
   ·rintro ((z | z) | z)
    ·exact .inl z
    ·exact .inr (.inr z)
    ·exact .inr (.inl z)
  have dn : ((d.toNat : Nat) : Int) = d := by lia
  have st : (if at0 (hdF ps (ups n1) A) (yE ps d).1 = at0 (hdF ps (ups n1) A) (yE ps d).2 then (0 : Int) else 1) + (if at0 (hdF qs (ups n2) (B ++ E)) (yE qs d).1 = at0 (hdF qs (ups n2) (B ++ E)) (yE qs d).2 then (0 : Int) else 1) <= 1 := by
   by_cases c : at0 (hdF ps (ups n1) A) (yE ps d).1 = at0 (hdF ps (ups n1) A) (yE ps d).2
   ·rw [if_pos c]; split <;> lia
   ·have := D.one (k := d.toNat) (vF h1 hb1 kA) (vF h2 hb2 kB) (by lia) (fun j hj nj => by
     rcases all j hj with z | z | z
     ·exact .inl z
     ·rcases Qs.mp z with y | y
      ·exact absurd y (by lia)
      ·exact .inr (Qp _ y)
     ·exact .inr (Qn _ z)) (by rw [dn]; exact c)
    rw [dn] at this;rw [if_neg c, if_pos this];lia
  rw [e2];show cN n1 ps A - cN n1 ps (A ++ ([d] ++ E)) + _ <= ((E.length + 1 : Nat) : Int);lia
theorem Dual.rank (D : Dual m f P L n1 n2 ps qs) (h1 : 1 <= n1) (h2 : 1 <= n2) (n19 : n1 <= 9) (n29 : n2 <= 9) (hb1 : ∀ p ∈ ps, InN n1 p) (hb2 : ∀ p ∈ qs, InN n2 p) (eu : n1 + n2 = m + 2) (w1 : cN n1 ps (ups m) = 1) (w2 : cN n2 qs (ups m) = 1)
  {A R : List Int} (hA : Ks m A) (hR : Ks m R) (al : (A.length : Int) + R.length = m) (all : ∀ j : Nat, j < m -> (j : Int) ∈ A \/ (j : Int) ∈ R) : cN n2 qs R = 1 + A.length - n1 + cN n1 ps A := by
 have lp := D.lp;have lq := D.lq;have a := D.gain h1 h2 hb1 hb2 A [] R hA (fun _ z => nomatch z) hR fun j hj => .inr (all j hj)
 have b := D.symm.gain h2 h1 hb2 hb1 R [] A hR (fun _ z => nomatch z) hA fun j hj => .inr (all j hj).symm
 have s1 : cN n1 ps (A ++ R) = cN n1 ps (ups m) := zbg h1 hb1 (by rw [lp]; exact zR hA hR) (by rw [lp]; exact wR m) fun k => by
  rw [mem_ups, Qr];constructor
  ·rintro (z | z)
   ·exact hA k z
   ·exact hR k z
  ·rintro ⟨k0, kl⟩;have := all k.toNat (by lia);rw [show ((k.toNat : Nat) : Int) = k by lia] at this;exact this
 have s2 : cN n2 qs (R ++ A) = cN n2 qs (ups m) := zbg h2 hb2 (by rw [lq]; exact zR hR hA) (by rw [lq]; exact wR m) fun k => by
  rw [mem_ups, Qr];constructor
  ·rintro (z | z)
   ·exact hR k z
   ·exact hA k z
  ·rintro ⟨k0, kl⟩;have := all k.toNat (by lia);rw [show ((k.toNat : Nat) : Int) = k by lia] at this;exact this.symm
 rw [Wf, zmq h1 n19, s2, w2] at a;rw [Wf, zmq h2 n29, s1, w1] at b;lia
end
end My
namespace My
open PySem L2
def zEl (K : W.Frag) : Sp := fun vs H Q _ => ∃ (a : Addr) (ns : List Int) (k : Nat), vs = [.ref a, .int k] /\ SqL K H a (ns.map V.int) /\ Q (.int (ns.getD k 0)) H
theorem x5 {ks : List Int} {i : Nat} {x : V} (hx : (ks.map V.int)[i]? = some x) : ∃ k, ks[i]? = some k /\ V.int k = x := by
 rw [Jz] at hx;cases e : ks[i]? with
 | none => rw [e] at hx; simp at hx
 | some k => rw [e] at hx; simp at hx; exact ⟨k, rfl, hx⟩
section
variable {P : Program} {w : World} {K : W.Frag} {mg : Str -> Option Value} {base : Heap}
theorem zHh : zL ["_law_script", "_law_k"] ["_law_script", "_law_k"] (zE sAt) := ⟨rfl, rfl, rfl, by decide +kernel, rfl, by decide +kernel, by decide +kernel⟩
theorem zIg (T : Txt K mg) (S : Src K mg "_law_at" sAt ["_law_script", "_law_k"]) : Def P w K mg base 1 "_law_at" ["_law_script", "_law_k"] (zEl K) := by
 refine S.def zHh (fun vs H Q E h => ?_) (fun f cdv A outer s H vs Q E hr h => ?_)
 ·obtain ⟨_, _, _, rfl, _⟩ := h; rfl
 ·obtain ⟨a, ns, k, rfl, hq, q⟩ := h;refine ⟨_, zD (wU (yF zAs (pv 1) (zN (yL K) (by rfl) T.len PySem.boot_len (zA (pv 0) zB)) (yQ _)) (zG (zO (yO (yS K) (pv 0) (pv 1) (fun _ _ => rfl)))) xB) (zG (zO zF)), ?_⟩;refine ⟨_, rfl, _, rfl, a, _, rfl, .inl hq, _, _, rfl, rfl, _, rfl, ?_⟩;rw [Qj];by_cases h : k < ns.length
  ·rw [Q2 (show (k : Int) < (ns.length : Int) by lia)];refine jP ⟨_, rfl, _, rfl, a, _, _, .int (ns.getD k 0), rfl, rfl, hq, yC ?_, q⟩;rw [Jz, Qd];simp [h]
  ·rw [Q8 (show ¬ (k : Int) < (ns.length : Int) by lia)];refine wL ?_;rw [Qd, List.getElem?_eq_none (by lia)] at q;exact q
end
theorem zex {H H2 : Hp} {g : Addr} {o : HO} (s : Same H H2) (h : H g = none) : Same H (upd H2 g o) := fun b u e => by rw [zU (zP e h)]; exact s b u e
theorem zDj (K : W.Frag) : PySem.W.kitOne K (.type "int") (.type "int") = some true := by first | rfl | decide +kernel
theorem zys (K : W.Frag) : PySem.W.kitOne K (.type "int") (.type "bool") = some false := by first | rfl | decide +kernel
theorem zDi (K : W.Frag) : PySem.W.kitOne K (.type "tuple") (.type "tuple") = some true := by rfl
def HK (kd : Kd) (H : Hp) (a : Addr) (xs : List V) : Prop := match kd with | .l => H a = some (.lst xs) | .t => FzT H a xs
theorem HK.sq {kd : Kd} {K : W.Frag} {H : Hp} {a : Addr} {xs : List V} (h : HK kd H a xs) : SqK kd K H a xs := by
 cases kd with
 | l => exact SqL.of h
 | t => exact FzT.sq h
theorem HK.same {kd : Kd} {H H' : Hp} {a : Addr} {xs : List V} (h : HK kd H a xs) (s : Same H H') : HK kd H' a xs := by
 cases kd with
 | l => exact s _ _ h
 | t => exact FzT.same h s
def OrdAt (kd : Kd) (H : Hp) (o : V) (m : Nat) (ord : List Int) : Prop := (o = .non /\ ord = ups m) \/ ∃ a, o = .ref a /\ HK kd H a (ord.map V.int) /\ ord.Perm (ups m)
theorem OrdAt.perm {kd : Kd} {H : Hp} {o : V} {m : Nat} {ord : List Int} (h : OrdAt kd H o m ord) : ord.Perm (ups m) := by
 rcases h with ⟨_, rfl⟩ | ⟨_, _, _, p⟩
 ·exact List.Perm.refl _
 ·exact p
def ztj (kd : Kd) (K : W.Frag) : List V -> Hp -> VK -> Prop := fun xs H Q => ∃ (p : Addr) (ns : List Int), xs = [.ref p] /\ SqK kd K H p (ns.map V.int) /\ ns.length < 64 /\ ∀ (l : Addr) (ms : List Int), ms.Perm ns -> ms.Pairwise (· <= ·) -> H l = none -> Q (.ref l) (upd H l (.lst (ms.map V.int)))
theorem zgc {X : Cx} (kd : Kd) : xE X (.builtin "sorted") (ztj kd X.K) := by
 cases kd with
 | l => exact zgd
 | t => exact vI
def zjm : Sp := fun vs H Q _ => ∃ i : Int, vs = [.int i] /\ Q (.bl true) H
def zhl (K : W.Frag) : Sp := fun vs H Q _ => ∃ (kd : Kd) (wv o : V) (n : Int) (ps : List (Int × Int)) (ord : List Int), vs = [wv, o] /\ WebAt H wv n ps /\ ps.length <= 8 /\ OrdAt kd H o ps.length ord /\ ∀ t H', Same H H' -> FzT H' t (ord.map V.int) -> Q (.ref t) H'
theorem vR {K : W.Frag} {H : Hp} {a b : Addr} {p : List Int} (h1 : SqT K H a (p.map V.int)) (h2 : SqT K H b (p.map V.int)) {Q : VK} {out : Bool} (q : Q (.bl out) H) : zca K out (.ref a) (.ref b) H Q := by
 refine ⟨a, b, _, _, 0, rfl, rfl, .inl ⟨h1, h2⟩, rfl, by decide, fun j x y e1 e2 => ?_, q⟩;rw [e1] at e2;cases e2
 rw [Jz] at e1;cases e : p[j]? with
 | none => rw [e] at e1; cases e1
 | some k => rw [e] at e1; cases e1; exact .flat rfl
theorem zHy (K : W.Frag) {us : List Value} (h : Vals [V.ty "list", V.ty "tuple"] us) (kd : Kd) : PySem.W.kitAny K (.type (match kd with | .l => "list" | .t => "tuple")) us = some true := by
 obtain ⟨u1, u2, rfl, r1, r2⟩ := Vals.two h;cases (show u1 = Value.type "list" from r1)
 cases (show u2 = Value.type "tuple" from r2)
 cases kd with
 | l => first | rfl | decide +kernel
 | t => first | rfl | decide +kernel
section
variable {P : Program} {w : World} {K : W.Frag} {mg : Str -> Option Value} {base : Heap}
theorem zpy : zL ["thing"] ["thing"] (zE kQ) := ⟨rfl, rfl, rfl, by decide +kernel, rfl, by decide +kernel, by decide +kernel⟩
theorem zun (T : Txt K mg) (S : Src K mg "is_whole" kQ ["thing"]) : Def P w K mg base 1 "is_whole" ["thing"] zjm := by
 refine S.def zpy (fun vs H Q E h => ?_) (fun f cdv A outer s H vs Q E hr h => ?_)
 ·obtain ⟨x, rfl, _⟩ := h; rfl
 ·obtain ⟨i, rfl, q⟩ := h;refine ⟨_, zG (zO (zCw (zN (zfl K) (by rfl) T.isi gE (zA (pv 0) (zA (gO (v := .ty "int") rfl T.int zfo rfl) zB)))
   (zCt (zvu (zN (zfl K) (by rfl) T.isi gE (zA (pv 0) (zA (gO (v := .ty "bool") rfl T.bool zms rfl) zB))))))), ?_⟩
  exact ⟨_, rfl, _, _, _, _, _, rfl, rfl, .int _, zDj K, _, rfl, jP ⟨_, rfl, _, _, _, _, _, rfl, rfl, .int _, zys K, _, rfl, q⟩⟩
def zmz : Sp := fun vs H Q _ => ∃ (kd : Kd) (a : Addr) (m n : Nat) (ord : List Int), vs = [.ref a, .int m] /\ HK kd H a (ord.map V.int) /\ m <= 16 /\ n <= 16 /\ ord.Perm (ups n) /\ ∀ H', Same H H' -> Q (.bl (decide (n = m))) H'
theorem zCa : zL ["thing", "many"] ["thing", "many"] (zE zsc) := ⟨rfl, rfl, rfl, by decide +kernel, rfl, by decide +kernel, by decide +kernel⟩
theorem ndk : (["number"] : List Str).Nodup := by decide +kernel
theorem zDx (T : Txt K mg) (S : Src K mg "is_each_once" zsc ["thing", "many"]) (DI : Def P w K mg base 1 "is_whole" ["thing"] zjm) : Def P w K mg base 2 "is_each_once" ["thing", "many"] zmz := by
 refine S.def zCa (fun vs H Q E h => ?_) (fun f cdv A outer s H vs Q E hr h => ?_)
 ·obtain ⟨_, _, _, _, _, rfl, _⟩ := h; rfl
 ·obtain ⟨kd, a, m, n, ord, rfl, ha, h20, n16, pm, q⟩ := h;have ol : ord.length = n := by rw [pm.length_eq, yP]; lia
  refine ⟨_, zD (wU (PW.pt (zlz (kI (vE (zN zmp (by rfl) T.isi gE (zA (pv 0) (zA (y8 (zA (gO (v := .ty "list") rfl T.list w5 rfl) (zA (gO (v := .ty "tuple") rfl T.tuple yH rfl) zB))) zB)))))
    (zie (kI (vE (zN (zva rfl) (by rfl) T.all zrl (zA (yT (N' := ["number"]) (fr := [none]) (zS (by rfl)) rfl (yM K kd (pv 0))
    (fun _ _ _ _ => zI (i := 0) ndk rfl (Or.inl rfl) (Or.inr rfl)) (fun _ _ _ _ => xA) (fun _ _ _ _ => zH DI hr rfl (zA (pv 0) zB))) zB))))))) vU xB)
   (zG (zO (qF (r := zAp K) (zyi (wN hr)) (zN (zgc kd) (by rfl) T.sorted xT (zA (pv 0) zB)) (zY (jS rfl) rfl T.list w5 (zA (zY qR rfl T.range qS (zA (pv 1) zB)) zB)) (yQ _)))), ?_⟩
  refine ⟨_, rfl, by show 2 <= sizeLine; decide, fun p1 hp1 => ?_⟩;have s1 := Same.new (o := HO.tup [V.ty "list", V.ty "tuple"]) hp1;have h1 : (upd H p1 (.tup [V.ty "list", V.ty "tuple"])) p1 = some (.tup [V.ty "list", V.ty "tuple"]) := zC;generalize upd H p1 (.tup [V.ty "list", V.ty "tuple"]) = H1 at s1 h1 ⊢;have ha1 := ha.same s1;refine ⟨a, p1, _, ord.map V.int, _, true, rfl, SqT.of h1, ?_, fun us r => zHy K r kd, _, rfl, wL ?_⟩
  ·cases kd with
   | l => exact .inl ⟨ha1, rfl⟩
   | t => exact .inr ⟨ha1, rfl⟩
  refine ⟨_, rfl, a, rfl, ⟨_, ha1.sq⟩, yX (k := kd) (a := a) (xs := ord.map V.int) (fun σ => ∃ v, σ = [v]) (fun i ys H2 => Same H1 H2 /\ ys = (List.replicate i true).map V.bl) ⟨_, rfl⟩ ⟨Same.refl _, rfl⟩ (by rw [Qj]; exact Js (show ord.length <= 100 by lia) (by decide)) (fun i ys H2 _ z => (ha1.same z.1).sq) ?_ ?_⟩
  ·rintro i x ys σ H2 N hx ⟨u, rfl⟩ ⟨s2, rfl⟩ hN;rw [Jz] at hx;obtain ⟨k, ek, rfl⟩ : ∃ k, ord[i]? = some k /\ V.int k = x := by
    cases e : ord[i]? with
    | none => rw [e] at hx; cases hx
    | some k => rw [e] at hx; exact ⟨k, rfl, Option.some.inj hx⟩
   dsimp only [yB, List.set];refine zbk ⟨_, rfl, k, rfl, ?_⟩;refine hN _ _ _ ⟨_, rfl⟩ ⟨s2, ?_⟩ (by simp);rw [List.replicate_succ', Qu];rfl
  ·rintro ys H2 ⟨s2, rfl⟩ p2 hp2;have s3 := Same.new (o := HO.lst ((List.replicate (ord.map V.int).length true).map V.bl)) hp2;have h3 : (upd H2 p2 (.lst ((List.replicate (ord.map V.int).length true).map V.bl))) p2 = some (.lst ((List.replicate (ord.map V.int).length true).map V.bl)) := zC;generalize upd H2 p2 (.lst ((List.replicate (ord.map V.int).length true).map V.bl)) = H3 at s3 h3 ⊢;have ha3 := ha1.same (s2.trans s3);have s13 := s1.trans (s2.trans s3);refine ⟨p2, _, rfl, SqL.of h3, _, rfl, ?_⟩;have al : (List.replicate (ord.map V.int).length true).all id = true := by rw [Jb]; intro b hb; exact (List.mem_replicate.mp hb).2
   rw [al];refine wL ⟨_, rfl, a, ord, rfl, ha3.sq, by lia, fun l4 ms p4 u4 hl4 => ?_⟩;have em : ms = ups n := gN (p4.trans pm) u4 ((xS _).imp fun h => by lia);subst em;have s4 := Same.new (o := HO.lst ((ups n).map V.int)) hl4;have h4 : (upd H3 l4 (.lst ((ups n).map V.int))) l4 = some (.lst ((ups n).map V.int)) := zC;generalize upd H3 l4 (.lst ((ups n).map V.int)) = H4 at s4 h4 ⊢;refine ⟨_, rfl, _, rfl, fun p hp => ⟨p, m, rfl, zC, by lia, fun l hl => ?_⟩⟩;have s5 := (Same.new (o := HO.rng 0 m) hp).trans (Same.new (o := HO.lst (upN m)) hl);have h5 : (upd (upd H4 p (.rng 0 m)) l (.lst (upN m))) l = some (.lst ((ups m).map V.int)) := by rw [zC, zgi]
   generalize upd (upd H4 p (.rng 0 m)) l (.lst (upN m)) = H5 at s5 h5 ⊢;refine ⟨l4, l, ups n, ups m, rfl, rfl, SqL.of (s5 _ _ h4), SqL.of h5, ?_⟩;have ed : decide (ups (n : Int) = ups (m : Int)) = decide (n = m) := by
    refine decide_eq_decide.mpr ⟨fun z => ?_, fun z => by rw [z]⟩;have := congrArg List.length z;rw [yP, yP] at this;lia
   rw [ed];exact q _ (s13.trans (s4.trans s5))
def zjo : Sp := fun vs H Q _ => ∃ a b, vs = [.int a, .int b] /\ ∀ c, H c = none -> Q (.ref c) (upd H c (.tup [.int (wD (a, b)).1, .int (wD (a, b)).2]))
theorem ztc : zL ["a", "b"] ["a", "b"] (zE zbu) := ⟨rfl, rfl, rfl, by decide +kernel, rfl, by decide +kernel, by decide +kernel⟩
theorem zus (S : Src K mg "lesser_first" zbu ["a", "b"]) : Def P w K mg base 1 "lesser_first" ["a", "b"] zjo := by
 refine S.def ztc (fun vs H Q E h => ?_) (fun f cdv A outer s H vs Q E hr h => ?_)
 ·obtain ⟨a, b, rfl, _⟩ := h; rfl
 ·obtain ⟨a, b, rfl, q⟩ := h;refine ⟨_, zG (zO (kZ (yF zFl (pv 0) (pv 1) (yQ _)) (y8 (zA (pv 0) (zA (pv 1) zB))) (y8 (zA (pv 1) (zA (pv 0) zB))))), ?_⟩;refine ⟨_, rfl, _, rfl, _, _, rfl, rfl, _, rfl, ?_⟩;by_cases hab : a <= b
  ·have e : wD (a, b) = (a, b) := by simp [wD, hab]
   rw [e] at q;rw [Q2 hab];exact jP ⟨_, rfl, _, rfl, by show 2 <= sizeLine; decide, q⟩
  ·have e : wD (a, b) = (b, a) := by simp [wD, hab]
   rw [e] at q;rw [Q8 hab];exact wL ⟨_, rfl, _, rfl, by show 2 <= sizeLine; decide, q⟩
theorem zBw : zL ["web", "order"] ["web", "order"] (zE zrs) := ⟨rfl, rfl, rfl, by decide +kernel, rfl, by decide +kernel, by decide +kernel⟩
theorem zDs (T : Txt K mg) (S : Src K mg "told_order" zrs ["web", "order"]) (DW : Def P w K mg base 1 "whole_pick" ["web"] zhk) (DI : Def P w K mg base 2 "is_each_once" ["thing", "many"] zmz) : Def P w K mg base 3 "told_order" ["web", "order"] (zhl K) := by
 refine S.def zBw (fun vs H Q E h => ?_) (fun f cdv A outer s H vs Q E hr h => ?_)
 ·obtain ⟨_, _, _, _, _, _, rfl, _⟩ := h; rfl
 ·obtain ⟨kd, wv, o, n, ps, ord, rfl, W, h8, alt, q⟩ := h;refine ⟨_, zD (wU (yF zDb (pv 1) zCu (yQ _)) (zG (zO (zH DW (hr.mono (by omega)) rfl (zA (pv 0) zB)))) xB)
   (zD (wU (kI (vE (zH DI hr rfl (zA (pv 1) (zA (zN (yL K) (by rfl) T.len PySem.boot_len (zA (yO (yI K) (pv 0) zF (fun _ _ => rfl)) zB)) zB))))) vU xB)
   (zG (zO (zY zja rfl T.tuple yH (zA (pv 1) zB))))), ?_⟩
  rcases alt with ⟨rfl, rfl⟩ | ⟨a, rfl, ha, pm⟩
  ·refine ⟨_, rfl, rfl, _, rfl, ?_⟩;rw [Q2 rfl];exact jP ⟨_, rfl, wv, n, ps, rfl, W, h8, fun t H' s h => q t H' s h⟩
  ·obtain ⟨c, d, xs, rfl, hc, hd, ht⟩ := W.ex;have xl : xs.length = ps.length := Paired.length ht;have i1 : atI ([.int n, .ref d] : List V) 1 = some (.ref d) := yC (j := 1) rfl;refine ⟨_, rfl, rfl, _, rfl, ?_⟩;rw [Q8 (fun z => nomatch z)]
   refine wL ⟨_, rfl, _, rfl, c, _, _, _, rfl, rfl, SqT.of hc, i1, d, xs, rfl, .inr (SqT.of hd), kd, a, ps.length, ps.length, ord, by rw [xl]; rfl, ha, by omega, by omega, pm, fun H1 s1 => ?_⟩;rw [Q2 (rfl : ps.length = ps.length)];refine ⟨_, rfl, wL ?_⟩;have ha6 := ha.same s1;refine ⟨_, rfl, a, ord.map V.int, rfl, ?_⟩;cases kd with
   | l => exact .inl ⟨SqL.of ha6, fun t7 o7 oc od ht7 => q t7 _ (s1.trans (Same.new ht7)) (FzT.new oc od)⟩
   | t => exact .inr ⟨FzT.sq ha6, q a _ s1 ha6⟩
end
def wY : List Int -> Int -> Nat
 | [], _ => 0
 | x :: l, k => if x = k then 0 else wY l k + 1
theorem zxc : ∀ {l : List Int} {k : Int}, k ∈ l -> l[wY l k]? = some k
 | x :: l, k, h => by
  unfold wY;by_cases c : x = k
  ·rw [if_pos c, c]; rfl
  ·rw [if_neg c];exact zxc ((Qs.mp h).resolve_left fun z => c z.symm)
theorem zxb : ∀ {l : List Int} {k : Int} (m : Nat), m < wY l k -> l[m]? ≠ some k
 | [], _, m, h => by unfold wY at h; omega
 | x :: l, k, m, h => by
  unfold wY at h;by_cases c : x = k
  ·rw [if_pos c] at h; omega
  ·rw [if_neg c] at h;cases m with
   | zero => intro z; exact c (Option.some.inj z)
   | succ m => exact zxb m (by omega)
theorem zzv (xs : List V) {j : Nat} : zbh xs none (some (j : Int)) = xs.take j := by
 unfold zbh;rw [show HT.sIx xs.length 0 none = 0 from rfl, HT.sIx_nat];rw [List.drop_zero, Nat.sub_zero];by_cases h : j <= xs.length
 ·rw [Nat.min_eq_left h]
 ·rw [Nat.min_eq_right (by omega), Q6, W3 (by omega)]
theorem gW (c : Int) : ∀ ties : List Int, inV (.int c) (ties.map V.int) = decide (c ∈ ties)
 | [] => rfl
 | x :: l => by
  have ih := gW c l;unfold inV at ih ⊢;rw [Qm, List.any_cons, ih];show (x == c || decide (c ∈ l)) = decide (c ∈ x :: l);rw [Jp];simp only [Bool.or_eq_true, beq_iff_eq, Qc, Qs];exact ⟨fun h => h.imp Eq.symm id, fun h => h.imp Eq.symm id⟩
theorem gF (l : List Int) : (l.map V.int).all j5 = true := by
 rw [Jb];intro x hx;obtain ⟨_, _, rfl⟩ := Ql.mp hx;rfl
def yJ (t : List Int) (g : Int) : List Int := t.filter fun k => decide (k ≠ g)
def apart (hs : List Int) (p : Int × Int) : Bool := !decide (at0 hs p.1 = at0 hs p.2)
def acB (n : Int) (ps : List (Int × Int)) (t : List Int) (g c : Int) : Bool := apart (hdF ps (ups n) (yJ t g)) (yE ps c)
def znm (n : Int) (ps : List (Int × Int)) (t : List Int) (g : Int) : List (Int × Int) := ((ups ps.length).filter (acB n ps t g)).map fun c => (g, c)
def swP (n : Int) (ps : List (Int × Int)) (t : List Int) : List (Int × Int) := t.flatMap (znm n ps t)
def zcu (K : W.Frag) : Sp := fun vs H Q _ => ∃ (wv : V) (hl : Addr) (n : Int) (ps : List (Int × Int)) (hs : List Int) (k : Int), vs = [wv, .ref hl, .int k] /\ WebAt H wv n ps /\ H hl = some (.lst (hs.map V.int)) /\ (hs.length : Int) = n /\ (∀ p ∈ ps, InN n p) /\ (0 <= k /\ k < ps.length) /\ Q (.bl (apart hs (yE ps k))) H
def zgm (K : W.Frag) : Sp := fun vs H Q _ => ∃ (wv : V) (tr : Addr) (n : Int) (ps : List (Int × Int)) (t : List Int), vs = [wv, .ref tr] /\ WebAt H wv n ps /\ xR n ps /\ SqT K H tr (t.map V.int) /\ Ks ps.length t /\ t.length <= 8 /\
 ∀ g zs H', Same H H' -> H' g = some (.lst zs) -> Paired (TieAt H') zs (swP n ps t) -> Q (.ref g) H'
def zgp (K : W.Frag) : Sp := fun vs H Q _ => ∃ (ta tl : Addr) (ord ties : List Int) (k : Int), vs = [.ref ta, .int k, .ref tl] /\ FzT H ta (ord.map V.int) /\ H tl = some (.lst (ties.map V.int)) /\ k ∈ ord /\ ord.length <= 8 /\
 ∀ H', Same H H' -> Q (.bl (!((ord.take (wY ord k)).any fun c => decide (c ∈ ties)))) H'
def zrr (K : W.Frag) (f : Int × Int -> Int) (g : Int × Int -> Int) : Sp := fun vs H Q _ => ∃ (ta sl : Addr) (ord : List Int) (k : Int) (zs : List V) (S : List (Int × Int)), vs = [.ref ta, .ref sl, .int k] /\ FzT H ta (ord.map V.int) /\ H sl = some (.lst zs) /\ Paired (TieAt H) zs S /\ S.length <= 64 /\ k ∈ ord /\ ord.length <= 8 /\
 ∀ H', Same H H' -> Q (.bl (!((ord.take (wY ord k)).any fun c => decide (c ∈ (S.filter fun p => decide (f p = k)).map g)))) H'
theorem zmx (n : Int) (ps : List (Int × Int)) (t : List Int) (h8 : ps.length <= 8) (g : Int) : (znm n ps t g).length <= 8 := by
 unfold znm;rw [Qj];have := Jr (acB n ps t g) (ups ps.length);rw [yP] at this;omega
theorem zxe {α β : Type} (f : α -> List β) (h : ∀ x, (f x).length <= 8) : ∀ l : List α, (l.flatMap f).length <= 8 * l.length
 | [] => by simp
 | x :: l => by
  rw [List.flatMap_cons, Q3, Jh];have := h x;have := zxe f h l;omega
theorem zer {H : Hp} {g : Addr} {o : HO} {zs ys : List V} {ps : List (Int × Int)} (h : Paired (TieAt H) ys ps) (hg : H g = some (.lst zs)) : Paired (TieAt (upd H g o)) ys ps :=
 L2.Paired.mapP h fun _ _ ⟨a, e1, e2⟩ => ⟨a, e1, by rw [zU (zee e2 hg (fun z => nomatch z))]; exact e2⟩
section
variable {P : Program} {w : World} {K : W.Frag} {mg : Str -> Option Value} {base : Heap}
theorem scAcross : zL ["web", "heads", "k", "tie"] ["web", "heads", "k"] (zE zby) := ⟨rfl, rfl, rfl, by decide +kernel, rfl, by decide +kernel, by decide +kernel⟩
theorem zuv (S : Src K mg "leads_across" zby ["web", "heads", "k"]) : Def P w K mg base 1 "leads_across" ["web", "heads", "k"] (zcu K) := by
 refine S.def scAcross (fun vs H Q E h => ?_) (fun f cdv A outer s H vs Q E hr h => ?_)
 ·obtain ⟨_, _, _, _, _, _, rfl, _⟩ := h; rfl
 ·obtain ⟨wv, hl, n, ps, hs, k, rfl, W, hh, hn, hb, ⟨k0, kl⟩, q⟩ := h;obtain ⟨c, d, xs, rfl, hc, hd, ht⟩ := W.ex;refine ⟨_, zD (zJ (i := 3) scAcross.nd rfl (Or.inl rfl) (yO (yI K) (yO (yI K) (pv 0) zF (fun _ _ => rfl)) (pv 2) (fun _ _ => rfl)))
   (zG (zO (qF zih (yO (yS K) (pv 1) (yO (yI K) (pv 3) zF (fun _ _ => rfl)) (fun _ _ => rfl)) (yO (yS K) (pv 1) (yO (yI K) (pv 3) zF (fun _ _ => rfl)) (fun _ _ => rfl)) (yQ _)))), ?_⟩
  obtain ⟨tc, et, htc⟩ := zwp ht k0 kl;obtain ⟨b1, b2, b3, b4⟩ := jG hb k0 kl;have i1 : atI ([.int n, .ref d] : List V) 1 = some (.ref d) := yC (j := 1) rfl;have t0 : atI ([.int (yE ps k).1, .int (yE ps k).2] : List V) 0 = some (.int (yE ps k).1) := yC (j := 0) rfl;have t1 : atI ([.int (yE ps k).1, .int (yE ps k).2] : List V) 1 = some (.int (yE ps k).2) := yC (j := 1) rfl;have a0 := zir (l := hs) (i := (yE ps k).1) b1 (by omega);have a1 := zir (l := hs) (i := (yE ps k).2) b3 (by omega);refine ⟨_, rfl, c, _, _, _, rfl, rfl, SqT.of hc, i1, _, rfl, d, _, _, _, rfl, rfl, SqT.of hd, et, ?_⟩;refine ⟨_, rfl, _, rfl, tc, _, _, _, rfl, rfl, SqT.of htc, t0, hl, _, _, _, rfl, rfl, SqL.of hh, a0, _, rfl, _, rfl, tc, _, _, _, rfl, rfl, SqT.of htc, t1, hl, _, _, _, rfl, rfl, SqL.of hh, a1, rfl, ?_⟩;rw [dec_int];exact q
theorem zxx : zL ["order", "k", "ties"] ["order", "k", "ties"] (zE zib) := ⟨rfl, rfl, rfl, by decide +kernel, rfl, by decide +kernel, by decide +kernel⟩
theorem zHl : (["tie", "ties"] : List Str).Nodup := by decide +kernel
theorem zrk : bootBuiltins "any" = some (.builtin "any") := by first | rfl | decide +kernel
theorem zzu (hany : mg "any" = none) (S : Src K mg "is_first" zib ["order", "k", "ties"]) : Def P w K mg base 1 "is_first" ["order", "k", "ties"] (zgp K) := by
 refine S.def zxx (fun vs H Q E h => ?_) (fun f cdv A outer s H vs Q E hr h => ?_)
 ·obtain ⟨_, _, _, _, _, rfl, _⟩ := h; rfl
 ·obtain ⟨ta, tl, ord, ties, k, rfl, hta, htl, hk, ol, q⟩ := h;refine ⟨_, zG (zO (zvu (zN (zlh rfl) (by rfl) hany zrk (zA (yT (N' := ["tie", "ties"]) (fr := [none, some 2]) (zS (by rfl)) rfl (yM K .t (kY (znt K) (pv 0) zoe (jK (zCv PySem.F.plainAttrs_tuple PySem.F.slot_tuple_index PySem.F.type_tuple_index zqj (pv 0) (zA (pv 1) zB)))))
   (fun _ _ _ _ => zI (i := 0) zHl rfl (Or.inl rfl) (Or.inr rfl)) (fun _ _ _ _ => xA) (fun _ _ _ _ => qF (r := rIn K false) zfa (pv 0) (pv 1) rfl)) zB)))), ?_⟩
  have jl : wY ord k < ord.length := (Qf.mp (zxc hk)).1;refine ⟨_, rfl, _, rfl, ⟨ta, _, rfl, hta⟩, _, rfl, ta, ord, k, wY ord k, rfl, rfl, hta.sq, zxc hk, fun m hm => zxb m hm, _, rfl, ta, _, rfl, hta.sq, ?_, fun p hp => ?_⟩
  ·rintro ⟨_, z⟩;rw [HT.sIx_nat, Qj] at z;omega
  rw [zzv, <- List.map_take];have s1 := Same.new (o := HO.tup ((ord.take (wY ord k)).map V.int)) hp;have h1 : (upd H p (.tup ((ord.take (wY ord k)).map V.int))) p = some (.tup ((ord.take (wY ord k)).map V.int)) := zC;generalize upd H p (.tup ((ord.take (wY ord k)).map V.int)) = H1 at s1 h1 ⊢;have al0 : (ord.take (wY ord k)).length <= 8 := by rw [J8]; omega
  generalize ord.take (wY ord k) = ah at h1 q al0;have al : ah.length <= 8 := al0;refine ⟨p, rfl, ⟨_, SqT.of h1⟩, yX (k := .t) (a := p) (xs := ah.map V.int) (fun σ => ∃ v, σ = [v, some (.ref tl)]) (fun i ys H2 => H2 = H1 /\ ys = ((ah.take i).map fun c => decide (c ∈ ties)).map V.bl) ⟨_, rfl⟩ ⟨rfl, rfl⟩ (by rw [Qj]; exact xF (by omega)) (fun i ys H2 _ z => by rw [z.1]; exact SqT.of h1) ?_ ?_⟩
  ·rintro i x ys σ H2 N hx ⟨u, rfl⟩ ⟨rfl, rfl⟩ hN;obtain ⟨c, ec, rfl⟩ := x5 hx;dsimp only [yB, List.set];refine zbk ⟨_, rfl, _, rfl, tl, ties.map V.int, rfl, .inl (SqL.of (s1 _ _ htl)), rfl, gF _, ?_⟩;rw [if_neg (by decide), gW];refine hN _ _ _ ⟨_, rfl⟩ ⟨rfl, ?_⟩ (by simp);rw [zM ec, Qu, Qu];rfl
  ·rintro ys H2 ⟨rfl, rfl⟩ p2 hp2;rw [Qj, Q6];refine ⟨p2, _, rfl, SqL.of zC, ?_⟩;have e : (ah.map fun c => decide (c ∈ ties)).any id = ah.any fun c => decide (c ∈ ties) := by rw [List.any_map]; rfl
   rw [e];exact ⟨_, rfl, q _ (s1.trans (Same.new hp2))⟩
theorem zCc : zL ["order", "swaps", "k"] ["order", "swaps", "k"] (zE zrz) := ⟨rfl, rfl, rfl, by decide +kernel, rfl, by decide +kernel, by decide +kernel⟩
theorem zxw : zL ["order", "swaps", "k"] ["order", "swaps", "k"] (zE zhy) := ⟨rfl, rfl, rfl, by decide +kernel, rfl, by decide +kernel, by decide +kernel⟩
theorem zsf : (["held", "other", "k"] : List Str).Nodup := by decide +kernel
theorem zwc {n : Nat} (h : n <= 64) : n < sizeLine := Js h (by decide)
theorem zEa (S : Src K mg "is_inner" zrz ["order", "swaps", "k"]) (DF : Def P w K mg base 1 "is_first" ["order", "k", "ties"] (zgp K)) : Def P w K mg base 2 "is_inner" ["order", "swaps", "k"] (zrr K (·.1) (·.2)) := by
 refine S.def zCc (fun vs H Q E h => ?_) (fun f cdv A outer s H vs Q E hr h => ?_)
 ·obtain ⟨_, _, _, _, _, _, rfl, _⟩ := h; rfl
 ·obtain ⟨ta, sl, ord, k, zs, SW, rfl, hta, hsl, hz, sl64, hk, ol, q⟩ := h;have zl : zs.length = SW.length := Paired.length hz;refine ⟨_, zG (zO (zH DF hr rfl (zA (pv 0) (zA (pv 2) (zA (yT (N' := ["held", "other", "k"]) (fr := [none, none, some 2]) (zS (by rfl)) rfl (yM K .l (pv 1))
   (g := zmi K 2 (w4 (yB 0) (w4 (yB 1) zoz))) (fun _ _ _ _ => wC K 2 rfl (zW (zI (i := 0) zsf rfl (Or.inl rfl) (Or.inr rfl)) (zW (zI (i := 1) zsf rfl (Or.inl rfl) (Or.inr rfl)) wB)))
   (fun _ _ _ _ => y9 (yF qL (pv 0) (pv 2) (yQ _))) (fun _ _ _ _ => pv 1)) zB))))), ?_⟩
  refine ⟨_, rfl, _, rfl, _, rfl, sl, rfl, ⟨_, SqL.of hsl⟩, yX (k := .l) (a := sl) (xs := zs) (fun σ => ∃ u v, σ = [u, v, some (.int k)]) (fun i ys H2 => H2 = H /\ ys = (((SW.take i).filter fun p => decide (p.1 = k)).map (·.2)).map V.int) ⟨_, _, rfl⟩ ⟨rfl, rfl⟩ (zwc (by omega)) (fun i ys H2 _ z => by rw [z.1]; exact SqL.of hsl) ?_ ?_⟩
  ·rintro i x ys σ H2 N hx ⟨u, v, rfl⟩ ⟨rfl, rfl⟩ hN;obtain ⟨p, ep, b, rfl, hb⟩ := Paired.at hz hx;refine ⟨b, _, rfl, SqT.of hb, rfl, _, _, rfl, _, _, rfl, rfl, ?_⟩;dsimp only [yB, List.set];refine ⟨_, rfl, _, rfl, rfl, _, rfl, ?_⟩;rw [dec_int];refine zdt (fun z => ⟨_, rfl, ?_⟩) (fun z => ?_)
   ·refine hN _ _ _ ⟨_, _, rfl⟩ ⟨rfl, ?_⟩ (by simp);rw [yV _ ep, z];simp
   ·refine hN _ _ _ ⟨_, _, rfl⟩ ⟨rfl, ?_⟩ (by simp);rw [yV _ ep, W7.mpr z];simp
  ·rintro ys H2 ⟨rfl, rfl⟩ p2 hp2;rw [zl, Q6];have s2 := Same.new (o := HO.lst (((SW.filter fun p => decide (p.1 = k)).map (·.2)).map V.int)) hp2;exact ⟨ta, p2, ord, _, k, rfl, hta.same s2, zC, hk, ol, fun H3 s3 => q H3 (s2.trans s3)⟩
theorem zzq (S : Src K mg "is_outer" zhy ["order", "swaps", "k"]) (DF : Def P w K mg base 1 "is_first" ["order", "k", "ties"] (zgp K)) : Def P w K mg base 2 "is_outer" ["order", "swaps", "k"] (zrr K (·.2) (·.1)) := by
 refine S.def zxw (fun vs H Q E h => ?_) (fun f cdv A outer s H vs Q E hr h => ?_)
 ·obtain ⟨_, _, _, _, _, _, rfl, _⟩ := h; rfl
 ·obtain ⟨ta, sl, ord, k, zs, SW, rfl, hta, hsl, hz, sl64, hk, ol, q⟩ := h;have zl : zs.length = SW.length := Paired.length hz;refine ⟨_, zG (zO (zH DF hr rfl (zA (pv 0) (zA (pv 2) (zA (yT (N' := ["held", "other", "k"]) (fr := [none, none, some 2]) (zS (by rfl)) rfl (yM K .l (pv 1))
   (g := zmi K 2 (w4 (yB 0) (w4 (yB 1) zoz))) (fun _ _ _ _ => wC K 2 rfl (zW (zI (i := 0) zsf rfl (Or.inl rfl) (Or.inr rfl)) (zW (zI (i := 1) zsf rfl (Or.inl rfl) (Or.inr rfl)) wB)))
   (fun _ _ _ _ => y9 (yF qL (pv 1) (pv 2) (yQ _))) (fun _ _ _ _ => pv 0)) zB))))), ?_⟩
  refine ⟨_, rfl, _, rfl, _, rfl, sl, rfl, ⟨_, SqL.of hsl⟩, yX (k := .l) (a := sl) (xs := zs) (fun σ => ∃ u v, σ = [u, v, some (.int k)]) (fun i ys H2 => H2 = H /\ ys = (((SW.take i).filter fun p => decide (p.2 = k)).map (·.1)).map V.int) ⟨_, _, rfl⟩ ⟨rfl, rfl⟩ (zwc (by omega)) (fun i ys H2 _ z => by rw [z.1]; exact SqL.of hsl) ?_ ?_⟩
  ·rintro i x ys σ H2 N hx ⟨u, v, rfl⟩ ⟨rfl, rfl⟩ hN;obtain ⟨p, ep, b, rfl, hb⟩ := Paired.at hz hx;refine ⟨b, _, rfl, SqT.of hb, rfl, _, _, rfl, _, _, rfl, rfl, ?_⟩;dsimp only [yB, List.set];refine ⟨_, rfl, _, rfl, rfl, _, rfl, ?_⟩;rw [dec_int];refine zdt (fun z => ⟨_, rfl, ?_⟩) (fun z => ?_)
   ·refine hN _ _ _ ⟨_, _, rfl⟩ ⟨rfl, ?_⟩ (by simp);rw [yV _ ep, z];simp
   ·refine hN _ _ _ ⟨_, _, rfl⟩ ⟨rfl, ?_⟩ (by simp);rw [yV _ ep, W7.mpr z];simp
  ·rintro ys H2 ⟨rfl, rfl⟩ p2 hp2;rw [zl, Q6];have s2 := Same.new (o := HO.lst (((SW.filter fun p => decide (p.2 = k)).map (·.1)).map V.int)) hp2;exact ⟨ta, p2, ord, _, k, rfl, hta.same s2, zC, hk, ol, fun H3 s3 => q H3 (s2.trans s3)⟩
theorem scSwaps : zL ["web", "tree", "swaps", "held", "heads"] ["web", "tree"] (zE zhs) := ⟨rfl, rfl, rfl, by decide +kernel, rfl, by decide +kernel, by decide +kernel⟩
theorem zHn : (["k", "held"] : List Str).Nodup := by decide +kernel
theorem zDf : (["other", "heads", "held", "web"] : List Str).Nodup := by decide +kernel
theorem zzj (T : Txt K mg) (S : Src K mg "swaps_of" zhs ["web", "tree"]) (DH : Def P w K mg base 1 "heads_of" ["web", "pick"] (gK K)) (DW : Def P w K mg base 1 "whole_pick" ["web"] zhk) (DA : Def P w K mg base 1 "leads_across" ["web", "heads", "k"] (zcu K)) : Def P w K mg base 2 "swaps_of" ["web", "tree"] (zgm K) := by
 refine S.def scSwaps (fun vs H Q E h => ?_) (fun f cdv A outer s H vs Q E hr h => ?_)
 ·obtain ⟨_, _, _, _, _, rfl, _⟩ := h; rfl
 ·obtain ⟨wv, tr, n, ps, t, rfl, W, ok, htr, ks, tl, q⟩ := h;obtain ⟨⟨n1, n9⟩, hb, h8⟩ := id ok;refine ⟨_, zD (zJ (i := 2) scSwaps.nd rfl (Or.inl rfl) (xM zB))
   (zD (wG PassesOwn.never rfl (yM K .t (pv 1)) (zI (i := 3) scSwaps.nd rfl (Or.inr rfl))
    (zD (zJ (i := 4) scSwaps.nd rfl (Or.inr rfl) (zH DH hr rfl (zA (pv 0) (zA (zY (yG K) rfl T.tuple yH (zA (yT (N' := ["k", "held"]) (fr := [none, some 3]) (zS (by rfl)) rfl (yM K .t (pv 1))
     (fun _ _ _ _ => zI (i := 0) zHn rfl (Or.inl rfl) (Or.inr rfl)) (fun _ _ _ _ => y9 (yF zih (pv 0) (pv 1) (yQ _))) (fun _ _ _ _ => pv 0)) zB)) zB))))
    (zG (wV (k5 PySem.F.plainAttrs_list PySem.F.slot_list_extend PySem.F.type_list_extend vW (pv 2) (zA (yT (N' := ["other", "heads", "held", "web"]) (fr := [none, some 4, some 3, some 0]) (zS (by rfl)) rfl (yM K .t (zH DW hr rfl (zA (pv 0) zB)))
     (fun _ _ _ _ => zI (i := 0) zDf rfl (Or.inl rfl) (Or.inr rfl)) (fun _ _ _ _ => y9 (vE (zH DA hr rfl (zA (pv 3) (zA (pv 1) (zA (pv 0) zB)))))) (fun _ _ _ _ => y8 (zA (pv 2) (zA (pv 0) zB)))) zB))))))
   (zG (zO (pv 2)))), ?_⟩
  refine ⟨Jj _, fun g hg => ?_⟩;have s0 := Same.new (o := HO.lst []) hg;have g0 : (upd H g (.lst [])) g = some (.lst []) := zC;generalize upd H g (.lst []) = H1 at s0 g0 ⊢;refine ⟨_, rfl, tr, rfl, ⟨_, s0.tup htr⟩, vP (k := .t) (K := K) (a := tr) (xs := t.map V.int) (fun i σ H2 => (∃ u v, σ = [some wv, some (.ref tr), some (.ref g), u, v]) /\ Same H H2 /\ ∃ zs, H2 g = some (.lst zs) /\ Paired (TieAt H2) zs ((t.take i).flatMap (znm n ps t)))
   ⟨⟨_, _, rfl⟩, s0, [], g0, .nil⟩ (fun i σ H2 _ z => z.2.1.tup htr) ?_ ?_⟩
  ·rintro i x σ H2 hx ⟨⟨u, v, rfl⟩, sm, zs, hz, pz⟩;obtain ⟨g1, eg1, rfl⟩ := x5 hx;dsimp only [yB, List.set];refine ⟨_, rfl, _, rfl, tr, rfl, ⟨_, sm.tup htr⟩, yX (k := .t) (a := tr) (xs := t.map V.int) (fun σ => ∃ v, σ = [v, some (.int g1)]) (fun i ys H3 => H3 = H2 /\ ys = ((t.take i).filter fun k => decide (k ≠ g1)).map V.int) ⟨_, rfl⟩ ⟨rfl, rfl⟩ (by rw [Qj]; exact xF (by omega)) (fun i ys H3 _ z => by rw [z.1]; exact sm.tup htr) ?_ ?_⟩
   ·rintro i x ys σ H3 N hx ⟨u, rfl⟩ ⟨rfl, rfl⟩ hN;obtain ⟨k, ek, rfl⟩ := x5 hx;dsimp only [yB, List.set];refine ⟨_, rfl, _, rfl, rfl, _, rfl, ?_⟩;have e1 : (!decide (V.int k = V.int g1)) = decide (k ≠ g1) := by rw [dec_int]; simp
    rw [e1];refine zdt (fun z => ⟨_, rfl, ?_⟩) (fun z => ?_)
    ·refine hN _ _ _ ⟨_, rfl⟩ ⟨rfl, ?_⟩ (by simp);rw [yV _ ek, z];simp
    ·refine hN _ _ _ ⟨_, rfl⟩ ⟨rfl, ?_⟩ (by simp);rw [yV _ ek, W7.mpr z];simp
   ·rintro ys H3 ⟨rfl, rfl⟩ p3 hp3;rw [Qj, Q6];have ed : (t.filter fun k => decide (k ≠ g1)) = yJ t g1 := rfl;rw [ed];refine ⟨p3, _, rfl, .inl ⟨SqL.of zC, fun t4 ht4 => ?_⟩⟩;have s34 := (Same.new (o := HO.lst ((yJ t g1).map V.int)) hp3).trans (Same.new (o := HO.tup ((yJ t g1).map V.int)) ht4);have h4 : (upd (upd H3 p3 (.lst ((yJ t g1).map V.int))) t4 (.tup ((yJ t g1).map V.int))) t4 = some (.tup ((yJ t g1).map V.int)) := zC;generalize upd (upd H3 p3 (.lst ((yJ t g1).map V.int))) t4 (.tup ((yJ t g1).map V.int)) = H4 at s34 h4 ⊢;have kd : Ks ps.length (yJ t g1) := fun k hk => ks k (Qg.mp hk).1;refine ⟨wv, t4, n, ps, yJ t g1, rfl, W.same (sm.trans s34), n1, n9, hb, SqT.of h4, kd, fun l5 H5 s5 h5 => ?_⟩;have sm5 := (sm.trans s34).trans s5;have hz5 := (s34.trans s5) _ _ hz;refine ⟨_, rfl, .inl ⟨rfl, _, SqL.of hz5⟩, _, rfl, wv, n, ps, rfl, W.same sm5, h8, fun t6 H6 s6 h6 => ?_⟩;refine ⟨t6, rfl, ⟨_, h6.sq⟩, yX (k := .t) (a := t6) (xs := (ups ps.length).map V.int) (fun σ => ∃ v, σ = [v, some (.ref l5), some (.int g1), some wv]) (fun i ys H7 => Same H6 H7 /\ Paired (TieAt H7) ys ((((ups ps.length).take i).filter (acB n ps t g1)).map fun c => (g1, c))) ⟨_, rfl⟩ ⟨Same.refl _, .nil⟩ (by rw [Qj, yP]; exact xF (by omega)) (fun i ys H7 _ z => (h6.same z.1).sq) ?_ ?_⟩
    ·rintro i x ys σ H7 N hx ⟨u, rfl⟩ ⟨s7, hy⟩ hN;obtain ⟨c, ec, rfl⟩ := x5 hx;have cm := mem_ups.mp (Jq ec);dsimp only [yB, List.set];refine ⟨_, rfl, _, rfl, _, rfl, wv, l5, n, ps, hdF ps (ups n) (yJ t g1), c, rfl, W.same (sm5.trans (s6.trans s7)), s7 _ _ (s6 _ _ h5), by rw [gX, yP]; omega, hb, ⟨cm.1, cm.2⟩, _, rfl, ?_⟩;have eac : apart (hdF ps (ups n) (yJ t g1)) (yE ps c) = acB n ps t g1 c := rfl;rw [eac];refine zdt (fun z => ⟨_, rfl, _, rfl, by show 2 <= sizeLine; decide, fun b hb8 => ?_⟩) (fun z => ?_)
     ·have s8 := Same.new (o := HO.tup [.int g1, .int c]) hb8;refine hN _ _ _ ⟨_, rfl⟩ ⟨s7.trans s8, ?_⟩ (by simp);rw [yV _ ec, if_pos z, Qu];exact L2.Paired.snoc (x9 hy s8) ⟨b, rfl, zC⟩
     ·refine hN _ _ _ ⟨_, rfl⟩ ⟨s7, ?_⟩ (by simp);rw [yV _ ec, if_neg z, Jw];exact hy
    ·rintro ys H7 ⟨s7, hy⟩ p8 hp8;rw [Qj, Q6] at hy;have hy : Paired (TieAt H7) ys (znm n ps t g1) := hy;have s8 := Same.new (o := HO.lst ys) hp8;have hz8 := s8 _ _ (s7 _ _ (s6 _ _ hz5));have h8' : (upd H7 p8 (.lst ys)) p8 = some (.lst ys) := zC;have hy8 := x9 hy s8;have pz8 := x9 pz (s34.trans (s5.trans (s6.trans (s7.trans s8))));have sm8 := sm5.trans (s6.trans (s7.trans s8));generalize upd H7 p8 (.lst ys) = H8 at hz8 h8' hy8 pz8 sm8 ⊢;have ly : ys.length <= 8 := by rw [Paired.length hy8]; exact zmx n ps t h8 g1
     have lz : zs.length <= 64 := by
      have e1 := Paired.length pz8;have e2 := zxe (znm n ps t) (zmx n ps t h8) (t.take i);rw [J8] at e2;omega
     refine ⟨g, p8, zs, ys, rfl, rfl, hz8, h8', J9 (qH (by omega)), ?_⟩;refine ⟨⟨_, _, rfl⟩, zex sm8 hg, zs ++ ys, zC, ?_⟩;rw [zM eg1, List.flatMap_append, List.flatMap_cons, List.flatMap_nil, Jw];exact k6 (zer pz8 hz8) (zer hy8 hz8)
  ·rintro σ H2 ⟨⟨u, v, rfl⟩, sm, zs, hz, pz⟩;rw [Qj, Q6] at pz;exact ⟨_, rfl, q g zs H2 sm hz pz⟩
end
def zwk (n : Int) (ps : List (Int × Int)) (t ord : List Int) : List Int := t.filter fun k => !((ord.take (wY ord k)).any fun c => decide (c ∈ ((swP n ps t).filter fun p => decide (p.1 = k)).map (·.2)))
def zhc (ps : List (Int × Int)) (t : List Int) : List Int := (ups ps.length).filter fun k => !decide (k ∈ t)
def zvx (n : Int) (ps : List (Int × Int)) (t ord : List Int) : List Int := (zhc ps t).filter fun k => !((ord.take (wY ord k)).any fun c => decide (c ∈ ((swP n ps t).filter fun p => decide (p.2 = k)).map (·.1)))
def zhm (K : W.Frag) (f : Int -> List (Int × Int) -> List Int -> List Int -> List Int) : Sp := fun vs H Q _ => ∃ (kd : Kd) (wv o : V) (tr : Addr) (n : Int) (ps : List (Int × Int)) (t ord : List Int), vs = [wv, .ref tr, o] /\ WebAt H wv n ps /\ xR n ps /\ SqT K H tr (t.map V.int) /\ Ks ps.length t /\ t.length <= 8 /\ OrdAt kd H o ps.length ord /\
 ∀ g H', Same H H' -> H' g = some (.tup ((f n ps t ord).map V.int)) -> Q (.ref g) H'
section
variable {P : Program} {w : World} {K : W.Frag} {mg : Str -> Option Value} {base : Heap}
theorem scInner : zL ["web", "tree", "order", "told", "swaps"] ["web", "tree", "order"] (zE zba) := ⟨rfl, rfl, rfl, by decide +kernel, rfl, by decide +kernel, by decide +kernel⟩
theorem scOuter : zL ["web", "tree", "order", "told", "swaps", "beside"] ["web", "tree", "order"] (zE zaz) := ⟨rfl, rfl, rfl, by decide +kernel, rfl, by decide +kernel, by decide +kernel⟩
theorem zAu : (["k", "swaps", "told"] : List Str).Nodup := by decide +kernel
theorem zHm : (["k", "tree"] : List Str).Nodup := by decide +kernel
theorem zGf (n : Int) (ps : List (Int × Int)) (t : List Int) (h8 : ps.length <= 8) (tl : t.length <= 8) : (swP n ps t).length <= 64 := by
 have := zxe (znm n ps t) (zmx n ps t h8) t;unfold swP;omega
theorem zzr (T : Txt K mg) (S : SrcD K mg "inner_ties" zba ["web", "tree", "order"]) (DT : Def P w K mg base 3 "told_order" ["web", "order"] (zhl K)) (DS : Def P w K mg base 2 "swaps_of" ["web", "tree"] (zgm K)) (DI : Def P w K mg base 2 "is_inner" ["order", "swaps", "k"] (zrr K (·.1) (·.2))) : zhf P w K mg base 4 "inner_ties" ["web", "tree", "order"] (zhm K zwk) := by
 refine SrcD.defX S scInner (fun vs H Q E h => ?_) (fun f cdv A outer s H vs Q E hr h => ?_)
 ·obtain ⟨_, _, _, _, _, _, _, _, rfl, _⟩ := h; rfl
 ·obtain ⟨kd, wv, o, tr, n, ps, t, ord, rfl, W, ok, htr, ks, tl, ho, q⟩ := h;have h8 := ok.2.2;have ol : ord.length <= 8 := by rw [ho.perm.length_eq, yP]; omega
  refine ⟨_, zD (zJ (i := 3) scInner.nd rfl (Or.inr rfl) (zH DT hr rfl (zA (pv 0) (zA (pv 2) zB))))
   (zD (zJ (i := 4) scInner.nd rfl (Or.inr rfl) (zH DS (hr.mono (by decide)) rfl (zA (pv 0) (zA (pv 1) zB))))
   (zG (zO (zY (yG K) rfl T.tuple yH (zA (yT (N' := ["k", "swaps", "told"]) (fr := [none, some 4, some 3]) (zS (by rfl)) rfl (yM K .t (pv 1))
    (fun _ _ _ _ => zI (i := 0) zAu rfl (Or.inl rfl) (Or.inr rfl)) (fun _ _ _ _ => y9 (vE (zH DI (hr.mono (by decide)) rfl (zA (pv 2) (zA (pv 1) (zA (pv 0) zB)))))) (fun _ _ _ _ => pv 0)) zB))))), ?_⟩
  refine ⟨_, rfl, _, rfl, kd, wv, o, n, ps, ord, rfl, W, h8, ho, fun t1 H1 s1 h1 => ?_⟩;refine ⟨_, rfl, _, rfl, wv, tr, n, ps, t, rfl, W.same s1, ok, s1.tup htr, ks, tl, fun g2 zs H2 s2 hz pz => ?_⟩;have s12 := s1.trans s2;have ht2 := h1.same s2;refine ⟨_, rfl, tr, rfl, ⟨_, s12.tup htr⟩, yX (k := .t) (a := tr) (xs := t.map V.int) (fun σ => ∃ v, σ = [v, some (.ref g2), some (.ref t1)]) (fun i ys H3 => Same H2 H3 /\ ys = ((t.take i).filter fun k => !((ord.take (wY ord k)).any fun c => decide (c ∈ ((swP n ps t).filter fun p => decide (p.1 = k)).map (·.2)))).map V.int) ⟨_, rfl⟩ ⟨Same.refl _, rfl⟩ (by rw [Qj]; exact xF (by omega)) (fun i ys H3 _ z => (s12.trans z.1).tup htr) ?_ ?_⟩
  ·rintro i x ys σ H3 N hx ⟨u, rfl⟩ ⟨s3, rfl⟩ hN;obtain ⟨k, ek, rfl⟩ := x5 hx;have km := ks k (Jq ek);have ko : k ∈ ord := ho.perm.mem_iff.mpr (mem_ups.mpr km);dsimp only [yB, List.set];refine ⟨_, rfl, _, rfl, _, rfl, t1, g2, ord, k, zs, swP n ps t, rfl, ht2.same s3, s3 _ _ hz, x9 pz s3, zGf n ps t h8 tl, ko, ol, fun H4 s4 => ⟨_, rfl, ?_⟩⟩;refine zdt (fun z => ⟨_, rfl, ?_⟩) (fun z => ?_)
   ·refine hN _ _ _ ⟨_, rfl⟩ ⟨s3.trans s4, ?_⟩ (by simp);rw [yV _ ek, if_pos z, Qu];rfl
   ·refine hN _ _ _ ⟨_, rfl⟩ ⟨s3.trans s4, ?_⟩ (by simp);rw [yV _ ek, if_neg z, Jw]
  ·rintro ys H3 ⟨s3, rfl⟩ p4 hp4;rw [Qj, Q6];refine ⟨p4, _, rfl, .inl ⟨SqL.of zC, fun t5 ht5 => ?_⟩⟩;exact q t5 _ (s12.trans (s3.trans ((Same.new hp4).trans (Same.new ht5)))) zC
theorem zzm (T : Txt K mg) (S : SrcD K mg "outer_ties" zaz ["web", "tree", "order"]) (DT : Def P w K mg base 3 "told_order" ["web", "order"] (zhl K)) (DS : Def P w K mg base 2 "swaps_of" ["web", "tree"] (zgm K)) (DW : Def P w K mg base 1 "whole_pick" ["web"] zhk) (DI : Def P w K mg base 2 "is_outer" ["order", "swaps", "k"] (zrr K (·.2) (·.1))) : zhf P w K mg base 4 "outer_ties" ["web", "tree", "order"] (zhm K zvx) := by
 refine SrcD.defX S scOuter (fun vs H Q E h => ?_) (fun f cdv A outer s H vs Q E hr h => ?_)
 ·obtain ⟨_, _, _, _, _, _, _, _, rfl, _⟩ := h; rfl
 ·obtain ⟨kd, wv, o, tr, n, ps, t, ord, rfl, W, ok, htr, ks, tl, ho, q⟩ := h;have h8 := ok.2.2;have hr1 : Room 1 _ := hr.mono (by decide);have ol : ord.length <= 8 := by rw [ho.perm.length_eq, yP]; omega
  refine ⟨_, zD (zJ (i := 3) scOuter.nd rfl (Or.inr rfl) (zH DT hr rfl (zA (pv 0) (zA (pv 2) zB))))
   (zD (zJ (i := 4) scOuter.nd rfl (Or.inr rfl) (zH DS (hr.mono (by decide)) rfl (zA (pv 0) (zA (pv 1) zB))))
   (zD (v9 (i := 5) scOuter.nd rfl (Or.inl rfl) (N' := ["k", "tree"]) (fr := [none, some 1]) (zS (by rfl)) rfl (yM K .t (zH DW hr1 rfl (zA (pv 0) zB)))
    (fun _ _ _ _ => zI (i := 0) zHm rfl (Or.inl rfl) (Or.inr rfl)) (fun _ _ _ _ => y9 (yF (r := rIn K true) j9 (pv 0) (pv 1) rfl)) (fun _ _ _ _ => pv 0))
   (zG (zO (zY (yG K) rfl T.tuple yH (zA (yT (N' := ["k", "swaps", "told"]) (fr := [none, some 4, some 3]) (zS (by rfl)) rfl (yM K .l (pv 5))
    (fun _ _ _ _ => zI (i := 0) zAu rfl (Or.inl rfl) (Or.inr rfl)) (fun _ _ _ _ => y9 (vE (zH DI (hr.mono (by decide)) rfl (zA (pv 2) (zA (pv 1) (zA (pv 0) zB)))))) (fun _ _ _ _ => pv 0)) zB)))))), ?_⟩
  refine ⟨_, rfl, _, rfl, kd, wv, o, n, ps, ord, rfl, W, h8, ho, fun t1 H1 s1 h1 => ?_⟩;refine ⟨_, rfl, _, rfl, wv, tr, n, ps, t, rfl, W.same s1, ok, s1.tup htr, ks, tl, fun g2 zs H2 s2 hz pz => ?_⟩;have s12 := s1.trans s2;have ht2 := h1.same s2;refine ⟨_, rfl, wv, n, ps, rfl, W.same s12, h8, fun t3 H3 s3 h3 => ?_⟩;have s13 := s12.trans s3;refine ⟨t3, rfl, ⟨_, h3.sq⟩, yX (k := .t) (a := t3) (xs := (ups ps.length).map V.int) (fun σ => ∃ v, σ = [v, some (.ref tr)]) (fun i ys H4 => H4 = H3 /\ ys = (((ups ps.length).take i).filter fun k => !decide (k ∈ t)).map V.int) ⟨_, rfl⟩ ⟨rfl, rfl⟩ (by rw [Qj, yP]; exact xF (by omega)) (fun i ys H4 _ z => by rw [z.1]; exact h3.sq) ?_ ?_⟩
  ·rintro i x ys σ H4 N hx ⟨u, rfl⟩ ⟨rfl, rfl⟩ hN;obtain ⟨k, ek, rfl⟩ := x5 hx;dsimp only [yB, List.set];refine ⟨_, rfl, _, rfl, tr, t.map V.int, rfl, .inr (s13.tup htr), rfl, gF _, _, rfl, ?_⟩;rw [if_pos rfl, gW];refine zdt (fun z => ⟨_, rfl, ?_⟩) (fun z => ?_)
   ·refine hN _ _ _ ⟨_, rfl⟩ ⟨rfl, ?_⟩ (by simp);rw [yV _ ek, if_pos z, Qu];rfl
   ·refine hN _ _ _ ⟨_, rfl⟩ ⟨rfl, ?_⟩ (by simp);rw [yV _ ek, if_neg z, Jw]
  ·rintro ys H4 ⟨rfl, rfl⟩ p5 hp5;rw [Qj, Q6];have eb : ((ups ps.length).filter fun k => !decide (k ∈ t)) = zhc ps t := rfl;rw [eb];have s5 := Same.new (o := HO.lst ((zhc ps t).map V.int)) hp5;have h5 : (upd H4 p5 (.lst ((zhc ps t).map V.int))) p5 = some (.lst ((zhc ps t).map V.int)) := zC;generalize upd H4 p5 (.lst ((zhc ps t).map V.int)) = H5 at s5 h5 ⊢;have s25 := s3.trans s5;have bl : (zhc ps t).length <= 8 := by
    have := Jr (fun k => !decide (k ∈ t)) (ups ps.length);rw [yP] at this;unfold zhc;omega
   refine ⟨_, rfl, p5, rfl, ⟨_, SqL.of h5⟩, yX (k := .l) (a := p5) (xs := (zhc ps t).map V.int) (fun σ => ∃ v, σ = [v, some (.ref g2), some (.ref t1)]) (fun i ys H6 => Same H5 H6 /\ ys = (((zhc ps t).take i).filter fun k => !((ord.take (wY ord k)).any fun c => decide (c ∈ ((swP n ps t).filter fun p => decide (p.2 = k)).map (·.1)))).map V.int) ⟨_, rfl⟩ ⟨Same.refl _, rfl⟩ (by rw [Qj]; exact xF (by omega)) (fun i ys H6 _ z => SqL.of (z.1 _ _ h5)) ?_ ?_⟩
   ·rintro i x ys σ H6 N hx ⟨u, rfl⟩ ⟨s6, rfl⟩ hN;obtain ⟨k, ek, rfl⟩ := x5 hx;have ko : k ∈ ord := ho.perm.mem_iff.mpr (Qg.mp (Jq ek)).1;have s26 := s25.trans s6;dsimp only [yB, List.set];refine ⟨_, rfl, _, rfl, _, rfl, t1, g2, ord, k, zs, swP n ps t, rfl, ht2.same s26, s26 _ _ hz, x9 pz s26, zGf n ps t h8 tl, ko, ol, fun H7 s7 => ⟨_, rfl, ?_⟩⟩;refine zdt (fun z => ⟨_, rfl, ?_⟩) (fun z => ?_)
    ·refine hN _ _ _ ⟨_, rfl⟩ ⟨s6.trans s7, ?_⟩ (by simp);rw [yV _ ek, if_pos z, Qu];rfl
    ·refine hN _ _ _ ⟨_, rfl⟩ ⟨s6.trans s7, ?_⟩ (by simp);rw [yV _ ek, if_neg z, Jw]
   ·rintro ys H6 ⟨s6, rfl⟩ p7 hp7;rw [Qj, Q6];refine ⟨p7, _, rfl, .inl ⟨SqL.of zC, fun t8 ht8 => ?_⟩⟩;exact q t8 _ (s13.trans (s5.trans (s6.trans ((Same.new hp7).trans (Same.new ht8))))) zC
end
def mkB (n : Int) (ps : List (Int × Int)) (t : List Int) (g c : Int) : Bool := decide (rk n ps (yJ t g ++ [c]) = (t.length : Int))
def zkn (n : Int) (ps : List (Int × Int)) (t ord : List Int) : List Int := t.filter fun g => !(((ord.take (wY ord g)).filter fun c => !decide (c ∈ t)).any fun c => mkB n ps t g c)
def gA (n : Int) (ps : List (Int × Int)) (t ord : List Int) : List Int := (ups ps.length).filter fun c => !decide (c ∈ t) && !(((ord.take (wY ord c)).filter fun g => decide (g ∈ t)).any fun g => mkB n ps t g c)
theorem zui {α : Type} (f : α -> Bool) (x : α) : [x].filter f = if f x = true then [x] else [] := by
 cases h : f x <;> simp [h]
theorem wQ : ∀ {t : List Int} {g : Int}, t.Pairwise (· < ·) -> g ∈ t -> (yJ t g).length + 1 = t.length
 | x :: t, g, up, h => by
  obtain ⟨a, b⟩ := List.pairwise_cons.mp up;unfold yJ;by_cases c : x = g
  ·rw [Wh (by rw [c]; simp), List.filter_eq_self.mpr, Jh];intro y hy;have := a y hy;exact Q2 (by omega)
  ·rw [Wq (by exact Q2 c), Jh, Jh];have := wQ b ((Qs.mp h).resolve_left fun z => c z.symm);unfold yJ at this;omega
structure zso (n : Int) (ps : List (Int × Int)) (t : List Int) : Prop where
 ks : Ks ps.length t
 up : t.Pairwise (· < ·)
 rk : (t.length : Int) = n - cN n ps t
theorem tree_of {n : Int} {ps : List (Int × Int)} (ok : xR n ps) {t : List Int} (h : t ∈ zX n ps) : zso n ps t := by
 obtain ⟨_, _, h8⟩ := ok;obtain ⟨a, b⟩ := (xK h8).mp (zep h);have e1 := xJ h;have e2 := Jf (Qg.mp h).2;rw [xX] at e2;exact ⟨a, b, by omega⟩
theorem zsh {n : Int} {ps : List (Int × Int)} (ok : xR n ps) {t : List Int} (T : zso n ps t) {g c : Int} (hg : g ∈ t) (c0 : 0 <= c) (cl : c < ps.length) : mkB n ps t g c = acB n ps t g c := by
 obtain ⟨⟨n1, n9⟩, hb, h8⟩ := ok;have kd : Ks ps.length (yJ t g) := fun k hk => T.ks k (Qg.mp hk).1;have gm := T.ks g hg;have e1 := qM n1 hb kd gm.1 gm.2;have kdg : Ks ps.length (yJ t g ++ [g]) := zR kd fun k hk => by rw [Qx.mp hk]; exact gm
 have e2 : cN n ps (yJ t g ++ [g]) = cN n ps t := by
  refine zbg n1 hb kdg T.ks fun k => ?_;rw [Qr, Qx];unfold yJ;rw [Qg, Qc];by_cases z : k = g
  ·rw [z]; exact ⟨fun _ => hg, fun _ => .inr rfl⟩
  ·exact ⟨fun h => (h.resolve_right z).1, fun h => .inl ⟨h, z⟩⟩
 have wi := (zli n1 n9 hb kd).2;have dl := wQ T.up hg;have tr := T.rk;have ed : n - cN n ps (yJ t g) = (t.length : Int) - 1 := by
  rw [e2] at e1;split at e1 <;> omega
 have kdc : Ks ps.length (yJ t g ++ [c]) := zR kd fun k hk => by rw [Qx.mp hk]; exact ⟨c0, cl⟩
 have e3 := qM n1 hb kd c0 cl;unfold mkB acB apart;rw [<- zid n1 n9 hb kdc, xX, e3];by_cases z : at0 (hdF ps (ups n) (yJ t g)) (yE ps c).1 = at0 (hdF ps (ups n) (yJ t g)) (yE ps c).2
 ·rw [if_pos z, Q2 z, Q8 (by omega)];rfl
 ·rw [if_neg z, Q8 z, Q2 (by omega)];rfl
theorem zGa {n : Int} {ps : List (Int × Int)} (ok : xR n ps) {t : List Int} (T : zso n ps t) {g c : Int} (hc : c ∈ t) (ne : c ≠ g) : acB n ps t g c = false := by
 obtain ⟨⟨n1, n9⟩, hb, h8⟩ := ok;have kd : Ks ps.length (yJ t g) := fun k hk => T.ks k (Qg.mp hk).1;have cm := T.ks c hc;have e1 := qM n1 hb kd cm.1 cm.2;have e2 : cN n ps (yJ t g ++ [c]) = cN n ps (yJ t g) := by
  refine zbg n1 hb (zR kd fun k hk => by rw [Qx.mp hk]; exact cm) kd fun k => ?_;rw [Qr, Qx];refine ⟨fun h => h.elim id fun z => ?_, .inl⟩;rw [z];exact Qg.mpr ⟨hc, Q2 ne⟩
 unfold acB apart;rw [e2] at e1;split at e1
 ·next z => rw [Q2 z]; rfl
 ·omega
theorem sw_mem {n : Int} {ps : List (Int × Int)} {t : List Int} {p : Int × Int} : p ∈ swP n ps t ↔ p.1 ∈ t /\ (0 <= p.2 /\ p.2 < ps.length) /\ acB n ps t p.1 p.2 = true := by
 unfold swP;rw [List.mem_flatMap];constructor
 ·rintro ⟨g, hg, hp⟩;unfold znm at hp;obtain ⟨c, hc, rfl⟩ := Ql.mp hp;obtain ⟨h1, h2⟩ := Qg.mp hc;exact ⟨hg, mem_ups.mp h1, h2⟩
 ·rintro ⟨h1, h2, h3⟩;exact ⟨p.1, h1, Ql.mpr ⟨p.2, Qg.mpr ⟨mem_ups.mpr h2, h3⟩, rfl⟩⟩
theorem sw_in {n : Int} {ps : List (Int × Int)} {t : List Int} {k c : Int} : c ∈ ((swP n ps t).filter fun p => decide (p.1 = k)).map (·.2) ↔ k ∈ t /\ (0 <= c /\ c < ps.length) /\ acB n ps t k c = true := by
 rw [Ql];constructor
 ·rintro ⟨p, hp, rfl⟩;obtain ⟨h1, h2⟩ := Qg.mp hp;have e := Jf h2;rw [<- e];exact sw_mem.mp h1
 ·intro h;exact ⟨(k, c), Qg.mpr ⟨sw_mem.mpr h, Q2 rfl⟩, rfl⟩
theorem sw_out {n : Int} {ps : List (Int × Int)} {t : List Int} {k g : Int} : g ∈ ((swP n ps t).filter fun p => decide (p.2 = k)).map (·.1) ↔ g ∈ t /\ (0 <= k /\ k < ps.length) /\ acB n ps t g k = true := by
 rw [Ql];constructor
 ·rintro ⟨p, hp, rfl⟩;obtain ⟨h1, h2⟩ := Qg.mp hp;have e := Jf h2;rw [<- e];exact sw_mem.mp h1
 ·intro h;exact ⟨(g, k), Qg.mpr ⟨sw_mem.mpr h, Q2 rfl⟩, rfl⟩
theorem zxl {l : List Int} {k c : Int} (h : c ∈ l.take (wY l k)) : c ≠ k := by
 obtain ⟨i, hi, e⟩ := List.mem_iff_getElem.mp h;rw [J8] at hi;intro z;have := zxb (l := l) (k := k) i (by omega);apply this;rw [List.getElem_take] at e;rw [Q9 (by omega), e, z]
theorem zwj {n : Int} {ps : List (Int × Int)} (ok : xR n ps) {t ord : List Int} (T : zso n ps t) (pm : ord.Perm (ups ps.length)) : zwk n ps t ord = zkn n ps t ord := by
 unfold zwk zkn;refine W6 fun k hk => ?_;congr 1;rw [Jp, Ju, Ju];constructor
 ·rintro ⟨c, hc, h⟩;obtain ⟨_, cm, ha⟩ := sw_in.mp (Jf h);refine ⟨c, Qg.mpr ⟨hc, ?_⟩, by rw [zsh ok T hk cm.1 cm.2]; exact ha⟩;rw [Wg, decide_eq_false_iff_not];intro z;rw [zGa ok T z (zxl hc)] at ha;cases ha
 ·rintro ⟨c, hc, h⟩;have h1 := (Qg.mp hc).1;have cm := mem_ups.mp (pm.mem_iff.mp (List.mem_of_mem_take h1));exact ⟨c, h1, Q2 (sw_in.mpr ⟨hk, cm, by rw [<- zsh ok T hk cm.1 cm.2]; exact h⟩)⟩
theorem zvw {n : Int} {ps : List (Int × Int)} (ok : xR n ps) {t ord : List Int} (T : zso n ps t) : zvx n ps t ord = gA n ps t ord := by
 unfold zvx gA zhc;rw [List.filter_filter];refine W6 fun k hk => ?_;have km := mem_ups.mp hk;rw [Bool.and_comm];congr 2;rw [Jp, Ju, Ju];constructor
 ·rintro ⟨g, hg, h⟩;obtain ⟨gt, _, ha⟩ := sw_out.mp (Jf h);exact ⟨g, Qg.mpr ⟨hg, Q2 gt⟩, by rw [zsh ok T gt km.1 km.2]; exact ha⟩
 ·rintro ⟨g, hg, h⟩;obtain ⟨h1, h2⟩ := Qg.mp hg;have gt := Jf h2;exact ⟨g, h1, Q2 (sw_out.mpr ⟨gt, km, by rw [<- zsh ok T gt km.1 km.2]; exact h⟩)⟩
structure RankOk (m : Nat) (r : List Int -> Int) : Prop where
 same : ∀ {X Y : List Int}, Ks m X -> Ks m Y -> (∀ k, k ∈ X ↔ k ∈ Y) -> r X = r Y
 gain : ∀ {D X : List Int}, Ks m D -> Ks m X -> 0 <= r (X ++ D) - r X /\ r (X ++ D) - r X <= D.length
 sub : ∀ {D X Y : List Int}, Ks m D -> Ks m X -> Ks m Y -> (∀ k ∈ X, k ∈ Y) -> r (Y ++ D) - r Y <= r (X ++ D) - r X
 nil : r [] = 0
theorem wT {n : Int} {ps : List (Int × Int)} (n1 : 1 <= n) (n9 : n <= 9) (hb : ∀ p ∈ ps, InN n p) : RankOk ps.length (rkP n ps) where
 same := fun h1 h2 h => by rw [xX, xX, zbg n1 hb h1 h2 h]
 gain := fun {D X} h1 h2 => by
  have := zmr n1 hb D X h1 h2;rw [xX, xX];lia
 sub := fun {D X Y} h1 h2 h3 h => by
  have := zxf n1 hb D X Y h1 h2 h3 h;rw [xX, xX, xX, xX];lia
 nil := by rw [xX, zmq n1 n9]; lia
section
variable {m : Nat} {r : List Int -> Int}
theorem RankOk.mono (o : RankOk m r) {X Y : List Int} (hX : Ks m X) (hY : Ks m Y) (h : ∀ k ∈ X, k ∈ Y) : r X <= r Y := by
 have e := o.same hY (zR hX hY) fun k => by
  rw [Qr];exact ⟨.inr, fun z => z.elim (h k) id⟩
 have := o.gain hY hX;lia
theorem RankOk.le (o : RankOk m r) {X : List Int} (hX : Ks m X) : r X <= X.length := by
 have := o.gain hX (fun _ z => nomatch z : Ks m [])
 rw [Wf, o.nil] at this;lia
theorem v6 {k : Int} (h0 : 0 <= k) (h1 : k < (m : Int)) : Ks m [k] := fun j hj => by rw [Qx.mp hj]; exact ⟨h0, h1⟩
theorem RankOk.span (o : RankOk m r) {Y : List Int} (hY : Ks m Y) : ∀ (D : List Int), Ks m D -> (∀ c ∈ D, r (Y ++ [c]) = r Y) -> r (Y ++ D) = r Y
 | [], _, _ => by rw [Jw]
 | c :: D, hD, h => by
  have hc : Ks m [c] := fun j hj => hD j (by rw [Qx.mp hj]; exact Qk);have hD' : Ks m D := fun j hj => hD j (Qy _ hj);have ih := o.span hY D hD' fun c hc => h c (Qy _ hc);have s := o.sub (D := [c]) (X := Y) (Y := Y ++ D) hc hY (zR hY hD') fun k hk => Qn _ hk;have g := o.gain hc (zR hY hD');have e := o.same (X := Y ++ c :: D) (Y := Y ++ D ++ [c]) (zR hY hD) (zR (zR hY hD') hc) fun k => by
   simp only [Qr, Qs, List.not_mem_nil, or_false];constructor
   ·rintro (z | z | z)
    ·exact .inl (.inl z)
    ·exact .inr z
    ·exact .inl (.inr z)
   ·rintro ((z | z) | z)
    ·exact .inl z
    ·exact .inr (.inr z)
    ·exact .inr (.inl z)
  have := h c Qk;lia
theorem RankOk.stays (o : RankOk m r) : ∀ (Z Y : List Int), Ks m Z -> Ks m Y -> r (Y ++ Z) < r Y + Z.length -> ∃ Z1 g Z2, Z = Z1 ++ g :: Z2 /\ r (Y ++ Z1 ++ [g]) = r (Y ++ Z1)
 | [], Y, _, _, h => by rw [Jw] at h; simp at h
 | g :: Z, Y, hZ, hY, h => by
  have hg : Ks m [g] := fun j hj => hZ j (by rw [Qx.mp hj]; exact Qk);have hZ' : Ks m Z := fun j hj => hZ j (Qy _ hj);by_cases e : r (Y ++ [g]) = r Y
  ·exact ⟨[], g, Z, rfl, by rw [Jw]; exact e⟩
  ·have ga := o.gain hg hY;have l1 : (([g] : List Int).length : Int) = 1 := rfl;obtain ⟨Z1, g', Z2, e1, e2⟩ := o.stays Z (Y ++ [g]) hZ' (zR hY hg) (by
    rw [Jc];rw [Jh] at h;show r (Y ++ g :: Z) < _;lia)
   refine ⟨g :: Z1, g', Z2, by rw [e1]; rfl, ?_⟩;have : Y ++ g :: Z1 = Y ++ [g] ++ Z1 := by rw [Jc]; rfl
   rw [this];exact e2
def zkx (m : Nat) (t : List Int) (k : Int) : List Int := (ups m).filter fun x => decide (x ∈ t \/ x = k)
theorem wX {t : List Int} {k x : Int} (ht : Ks m t) (k0 : 0 <= k /\ k < (m : Int)) : x ∈ zkx m t k ↔ x ∈ t \/ x = k := by
 unfold zkx;rw [Qg, mem_ups, Qc];exact ⟨fun z => z.2, fun z => ⟨z.elim (ht x) (fun e => by rw [e]; exact k0), z⟩⟩
def wM (r : List Int -> Int) (R : Int) (pick t ra : List Int) (k : Int) : Bool := decide (r (t ++ ra) < R) || (decide (k ∈ pick) && !decide (r (t ++ [k]) = r t))
def trG (m : Nat) (r : List Int -> Int) (R : Int) (pick : List Int) : List Int -> List Int -> List Int
 | [], t => t
 | k :: ra, t => trG m r R pick ra (if wM r R pick t ra k = true then zkx m t k else t)
structure WalkT (m : Nat) (r : List Int -> Int) (R : Int) (ra t : List Int) : Prop where
 kt : Ks m t
 up : t.Pairwise (· < ·)
 kr : Ks m ra
 nd : ra.Nodup
 dis : ∀ x ∈ t, x ∉ ra
 ind : r t = t.length
 full : r (t ++ ra) = R
theorem zim (t : List Int) (k : Int) : (zkx m t k).Pairwise (· < ·) := (xS m).filter _
theorem yZ {t : List Int} (h : t.Pairwise (· < ·)) : t.Nodup := h.imp fun z => by lia
theorem zkp {X Y : List Int} (h1 : X.Nodup) (h2 : Y.Nodup) (h : ∀ k, k ∈ X ↔ k ∈ Y) : X.length = Y.length := (vS h1 h2 h).length_eq
theorem WalkT.step (o : RankOk m r) {R : Int} {pick ra t : List Int} {k : Int} (W : WalkT m r R (k :: ra) t) : WalkT m r R ra (if wM r R pick t ra k = true then zkx m t k else t) := by
 have km := W.kr k Qk;have kr' : Ks m ra := fun j hj => W.kr j (Qy _ hj);obtain ⟨nk, nd'⟩ := Jy.mp W.nd;have k1 := v6 km.1 km.2;have kn : k ∉ t := fun z => W.dis k z Qk;have g1 := o.gain k1 W.kt;have l1 : (([k] : List Int).length : Int) = 1 := rfl;have ft := W.full;have e1 : r (t ++ k :: ra) = r (t ++ ra ++ [k]) := o.same (zR W.kt W.kr) (zR (zR W.kt kr') k1) fun x => by
  simp only [Qr, Qs, List.not_mem_nil, or_false];constructor
  ·rintro (z | z | z)
   ·exact .inl (.inl z)
   ·exact .inr z
   ·exact .inl (.inr z)
  ·rintro ((z | z) | z)
   ·exact .inl z
   ·exact .inr (.inr z)
   ·exact .inr (.inl z)
 have g2 := o.gain k1 (zR W.kt kr');by_cases c : wM r R pick t ra k = true
 ·rw [if_pos c];have ki : Ks m (zkx m t k) := fun x hx => by
   rcases (wX W.kt km).mp hx with z | z
   ·exact W.kt x z
   ·rw [z]; exact km
  have si : ∀ x, x ∈ zkx m t k ↔ x ∈ t ++ [k] := fun x => by
   rw [wX W.kt km, Qr, Qx]
  have ndk : (t ++ [k]).Nodup := by
   rw [W5];exact ⟨yZ W.up, Jy.mpr ⟨(fun z => nomatch z), .nil⟩, fun a ha b hb => by rw [Qx.mp hb]; exact fun z => kn (by rw [<- z]; exact ha)⟩
  have li := zkp (yZ (zim t k)) ndk si;have ri := o.same ki (zR W.kt k1) si;have raise : r (t ++ [k]) = r t + 1 := by
   unfold wM at c;rw [Bool.or_eq_true, Q5, Qc, Wg, decide_eq_false_iff_not] at c;rcases c with c | c
   ·have s := o.sub (D := [k]) (X := t) (Y := t ++ ra) k1 W.kt (zR W.kt kr') fun x hx => Qn _ hx;lia
   ·have := c.2;lia
  refine ⟨ki, zim t k, kr', nd', fun x hx => ?_, ?_, ?_⟩
  ·rcases (wX W.kt km).mp hx with z | z
   ·exact fun y => W.dis x z (Qy _ y)
   ·rw [z]; exact nk
  ·rw [ri, li, raise, W.ind, Q3];rfl
  ·rw [<- ft];refine o.same (zR ki kr') (zR W.kt W.kr) fun x => ?_;rw [Qr, Qr, Qs, si, Qr, Qx];exact ⟨fun z => z.elim (fun z => z.elim .inl fun z => .inr (.inl z)) fun z => .inr (.inr z), fun z => z.elim (fun z => .inl (.inl z)) fun z => z.elim (fun z => .inl (.inr z)) .inr⟩
 ·rw [if_neg c];refine ⟨W.kt, W.up, kr', nd', fun x hx y => W.dis x hx (Qy _ y), W.ind, ?_⟩;unfold wM at c;rw [Bool.or_eq_true, Qc] at c;have : ¬ r (t ++ ra) < R := fun z => c (.inl z);lia
theorem zcr (o : RankOk m r) {R : Int} {pick : List Int} : ∀ (ra t : List Int), WalkT m r R ra t -> WalkT m r R [] (trG m r R pick ra t) /\ ∀ x, x ∉ ra -> (x ∈ trG m r R pick ra t ↔ x ∈ t)
 | [], t, W => ⟨W, fun _ _ => Iff.rfl⟩
 | k :: ra, t, W => by
  have S := W.step o (pick := pick);obtain ⟨h1, h2⟩ := zcr o (pick := pick) ra _ S;refine ⟨h1, fun x hx => ?_⟩;show x ∈ trG m r R pick ra _ ↔ _;rw [h2 x fun z => hx (Qy _ z)];split
  ·rw [wX W.kt (W.kr k Qk)];exact ⟨fun z => z.resolve_right fun e => hx (by rw [e]; exact Qk), .inl⟩
  ·exact Iff.rfl
theorem drop_mem {t : List Int} {g x : Int} : x ∈ yJ t g ↔ x ∈ t /\ x ≠ g := by
 unfold yJ;rw [Qg, Qc]
theorem zel (o : RankOk m r) {R : Int} {pick : List Int} : ∀ (ra t : List Int), WalkT m r R ra t -> ∀ pre k post, ra = pre ++ k :: post ->
  (k ∈ trG m r R pick ra t -> k ∉ pick -> ∀ c ∈ post, r (yJ (trG m r R pick ra t) k ++ [c]) ≠ R) /\ (k ∈ pick -> k ∉ trG m r R pick ra t -> ∀ g ∈ post, g ∈ trG m r R pick ra t -> r (yJ (trG m r R pick ra t) g ++ [k]) ≠ R)
 | [], t, W, pre, k, post, e => by cases pre <;> cases e
 | a :: ra, t, W, pre, k, post, e => by
  have S := W.step o (pick := pick);obtain ⟨h1, h2⟩ := zcr o (pick := pick) ra _ S;cases pre with
  | cons p pre =>
   injection e with e1 e2;exact zel o ra _ S pre k post e2
  | nil =>
   injection e with e1 e2;subst e1 e2;obtain ⟨nk, nd'⟩ := Jy.mp W.nd;have am := W.kr a Qk;have kr' : Ks m ra := fun j hj => W.kr j (Qy _ hj);have an : a ∉ t := fun z => W.dis a z Qk;have tT : ∀ x ∈ t, x ∈ trG m r R pick (a :: ra) t := fun x hx => by
    show x ∈ trG m r R pick ra _;rw [h2 x fun z => W.dis x hx (Qy _ z)];split
    ·exact (wX W.kt am).mpr (.inl hx)
    ·exact hx
   have Tt : ∀ x ∈ trG m r R pick (a :: ra) t, x ∈ t \/ x = a \/ x ∈ ra := fun x hx => by
    by_cases z : x ∈ ra
    ·exact .inr (.inr z)
    ·have hx' : x ∈ trG m r R pick ra _ := hx;rw [h2 x z] at hx';split at hx'
     ·rcases (wX W.kt am).mp hx' with y | y
      ·exact .inl y
      ·exact .inr (.inl y)
     ·exact .inl hx'
   have aT : a ∈ trG m r R pick (a :: ra) t ↔ wM r R pick t ra a = true := by
    show a ∈ trG m r R pick ra _ ↔ _;rw [h2 a nk];split
    ·next c => exact ⟨fun _ => c, fun _ => (wX W.kt am).mpr (.inr rfl)⟩
    ·next c => exact ⟨fun z => absurd z an, fun z => absurd z c⟩
   have KT : Ks m (trG m r R pick (a :: ra) t) := h1.kt;have IT : r (trG m r R pick (a :: ra) t) = (trG m r R pick (a :: ra) t).length := h1.ind;have RT : r (trG m r R pick (a :: ra) t) = R := by have := h1.full; rw [Jw] at this; exact this
   have UT : (trG m r R pick (a :: ra) t).Pairwise (· < ·) := h1.up;generalize trG m r R pick (a :: ra) t = T at tT Tt aT KT IT RT UT;unfold wM at aT;rw [Bool.or_eq_true, Q5, Qc, Qc, Wg, decide_eq_false_iff_not] at aT;constructor
   ·intro hT hp c hc;have nd := (aT.mp hT).resolve_right fun z => hp z.1;have cm := kr' c hc;have := o.mono (X := yJ T a ++ [c]) (Y := t ++ ra) (zR (fun x hx => KT x (drop_mem.mp hx).1) (v6 cm.1 cm.2)) (zR W.kt kr') fun x hx => by
     rcases Qr.mp hx with z | z
     ·obtain ⟨z1, z2⟩ := drop_mem.mp z;rcases Tt x z1 with y | y | y
      ·exact Qn _ y
      ·exact absurd y z2
      ·exact Qp _ y
     ·rw [Qx.mp z];exact Qp _ hc
    lia
   ·intro hp hT g hg gT;have k1 := v6 am.1 am.2;have kd : Ks m (yJ T g) := fun x hx => KT x (drop_mem.mp hx).1;have nc : r (t ++ [a]) = r t := by
     by_cases z : r (t ++ [a]) = r t
     ·exact z
     ·exact absurd (aT.mpr (.inr ⟨hp, z⟩)) hT
    have s := o.sub (D := [a]) (X := t) (Y := yJ T g) k1 W.kt kd fun x hx => drop_mem.mpr ⟨tT x hx, fun z => W.dis x hx (by rw [z]; exact Qy _ hg)⟩;have l := o.le kd;have dl := wQ UT gT;lia
theorem zek (o : RankOk m r) {R : Int} {pick T : List Int} (KT : Ks m T) (UT : T.Pairwise (· < ·)) (IT : r T = T.length) (RT : r T = R) (top : ∀ X : List Int, Ks m X -> r X <= R) :
  ∀ (ra t : List Int), WalkT m r R ra t -> (∀ x, x ∉ ra -> (x ∈ t ↔ x ∈ T)) ->
  (∀ pre k post, ra = pre ++ k :: post -> (k ∈ T -> k ∉ pick -> ∀ c ∈ post, c ∉ T -> r (yJ T k ++ [c]) ≠ R) /\ (k ∈ pick -> k ∉ T -> ∀ g ∈ post, g ∈ T -> r (yJ T g ++ [k]) ≠ R)) -> ∀ x, x ∈ trG m r R pick ra t ↔ x ∈ T
 | [], t, W, h, _ => fun x => h x (fun z => nomatch z)
 | a :: ra, t, W, h, st => by
  have S := W.step o (pick := pick);obtain ⟨nk, nd'⟩ := Jy.mp W.nd;have am := W.kr a Qk;have a1 := v6 am.1 am.2;have kr' : Ks m ra := fun j hj => W.kr j (Qy _ hj);have an : a ∉ t := fun z => W.dis a z Qk;have tT : ∀ x ∈ t, x ∈ T := fun x hx => (h x (W.dis x hx)).mp hx;have Tt : ∀ x ∈ T, x ∈ t \/ x = a \/ x ∈ ra := fun x hx => by
   by_cases z : x ∈ a :: ra
   ·rcases Qs.mp z with y | y
    ·exact .inr (.inl y)
    ·exact .inr (.inr y)
   ·exact .inl ((h x z).mpr hx)
  obtain ⟨s1, s2⟩ := st [] a ra rfl;have g1 := o.gain a1 W.kt;have l1 : (([a] : List Int).length : Int) = 1 := rfl;have key : wM r R pick t ra a = true ↔ a ∈ T := by
   unfold wM;rw [Bool.or_eq_true, Q5, Qc, Qc, Wg, decide_eq_false_iff_not];constructor
   ·intro c;by_cases hT : a ∈ T
    ·exact hT
    exfalso;have sub : ∀ x ∈ T, x ∈ t ++ ra := fun x hx => by
     rcases Tt x hx with y | y | y
     ·exact Qn _ y
     ·exact absurd hx (by rw [y]; exact hT)
     ·exact Qp _ y
    rcases c with c | ⟨cp, cn⟩
    ·have := o.mono KT (zR W.kt kr') sub;lia
    ·-- some tie of T ahead stays yN it
     have kz : Ks m (ra.filter fun x => decide (x ∈ T)) := fun x hx => kr' x (Qg.mp hx).1;have mz : ∀ x, x ∈ ra.filter (fun x => decide (x ∈ T)) ↔ x ∈ ra /\ x ∈ T := fun x => by rw [Qg, Qc]
     have ndz : (ra.filter fun x => decide (x ∈ T)).Nodup := nd'.filter _;generalize hZ : (ra.filter fun x => decide (x ∈ T)) = Z at kz mz ndz;have ndtz : (t ++ Z).Nodup := by
      rw [W5];exact ⟨yZ W.up, ndz, fun x hx y hy e => W.dis x hx (by rw [e]; exact Qy _ ((mz y).mp hy).1)⟩
     have lz := zkp ndtz (yZ UT) fun x => by
      rw [Qr];constructor
      ·rintro (z | z)
       ·exact tT x z
       ·exact ((mz x).mp z).2
      ·intro z;rcases Tt x z with y | y | y
       ·exact .inl y
       ·exact absurd z (by rw [y]; exact hT)
       ·exact .inr ((mz x).mpr ⟨y, z⟩)
     rw [Q3] at lz;have tp := top (t ++ [a] ++ Z) (zR (zR W.kt a1) kz);have it := W.ind;obtain ⟨Z1, g, Z2, ez, eg⟩ := o.stays Z (t ++ [a]) kz (zR W.kt a1) (by lia);have gz : g ∈ Z := by rw [ez]; exact Qp _ Qk
     obtain ⟨gr, gT⟩ := (mz g).mp gz;have gm := KT g gT;have gk1 := v6 gm.1 gm.2;have kz1 : Ks m Z1 := fun x hx => kz x (by rw [ez]; exact Qn _ hx);have kd : Ks m (yJ T g ++ [a]) := zR (fun x hx => KT x (drop_mem.mp hx).1) a1;have gz1 : g ∉ Z1 := by
      rw [ez] at ndz;intro z;exact (W5.mp ndz).2.2 g z g Qk rfl
     have s := o.sub (D := [g]) (X := t ++ [a] ++ Z1) (Y := yJ T g ++ [a]) gk1 (zR (zR W.kt a1) kz1) kd fun x hx => by
      rcases Qr.mp hx with z | z
      ·rcases Qr.mp z with y | y
       ·exact Qn _ (drop_mem.mpr ⟨tT x y, fun e => W.dis x y (by rw [e]; exact Qy _ gr)⟩)
       ·exact Qp _ y
      ·exact Qn _ (drop_mem.mpr ⟨((mz x).mp (by rw [ez]; exact Qn _ z)).2, fun e => gz1 (by rw [<- e]; exact z)⟩)
     have mo := o.mono (X := T) (Y := yJ T g ++ [a] ++ [g]) KT (zR kd gk1) fun x hx => by
      by_cases e : x = g
      ·rw [e]; exact Qp _ Qk
      ·exact Qn _ (Qn _ (drop_mem.mpr ⟨hx, e⟩))
     have tp2 := top _ kd;exact s2 cp hT g gr gT (by lia)
   ·intro hT;by_cases c : r (t ++ ra) < R
    ·exact .inl c
    refine .inr ⟨?_, ?_⟩
    ·by_cases hp : a ∈ pick
     ·exact hp
     exfalso;have kd : Ks m (yJ T a) := fun x hx => KT x (drop_mem.mp hx).1;have dl := wQ UT hT;have le := o.le kd;have lo := o.gain a1 kd;have ea := o.same (X := yJ T a ++ [a]) (Y := T) (zR kd a1) KT fun x => by
      rw [Qr, drop_mem, Qx];by_cases e : x = a
      ·rw [e]; exact ⟨fun _ => hT, fun _ => .inr rfl⟩
      ·exact ⟨fun z => (z.resolve_right e).1, fun z => .inl ⟨z, e⟩⟩
     have sp := o.span kd ra kr' fun c hc => by
      have cm := kr' c hc;have c1 := v6 cm.1 cm.2;have gc := o.gain c1 kd;have lc : (([c] : List Int).length : Int) = 1 := rfl;by_cases cT : c ∈ T
      ·refine o.same (zR kd c1) kd fun x => ?_;rw [Qr, Qx];exact ⟨fun z => z.elim id fun e => by rw [e]; exact drop_mem.mpr ⟨cT, fun e => nk (by rw [<- e]; exact hc)⟩, .inl⟩
      ·have := s1 hT hp c hc cT;have tp := top _ (zR kd c1);lia
     have mo := o.mono (X := t ++ ra) (Y := yJ T a ++ ra) (zR W.kt kr') (zR kd kr') fun x hx => by
      rcases Qr.mp hx with z | z
      ·exact Qn _ (drop_mem.mpr ⟨tT x z, fun e => an (by rw [<- e]; exact z)⟩)
      ·exact Qp _ z
     lia
    ·-- t and a are within T
     have s := o.sub (D := [a]) (X := t) (Y := yJ T a) a1 W.kt (fun x hx => KT x (drop_mem.mp hx).1) fun x hx => drop_mem.mpr ⟨tT x hx, fun e => an (by rw [<- e]; exact hx)⟩;have kd : Ks m (yJ T a) := fun x hx => KT x (drop_mem.mp hx).1;have dl := wQ UT hT;have le := o.le kd;have ea := o.same (X := yJ T a ++ [a]) (Y := T) (zR kd a1) KT fun x => by
      rw [Qr, drop_mem, Qx];by_cases e : x = a
      ·rw [e]; exact ⟨fun _ => hT, fun _ => .inr rfl⟩
      ·exact ⟨fun z => (z.resolve_right e).1, fun z => .inl ⟨z, e⟩⟩
     lia
  refine zek o KT UT IT RT top ra _ S (fun x hx => ?_) fun pre k post e => st (a :: pre) k post (by rw [e]; rfl);by_cases c : wM r R pick t ra a = true
  ·rw [if_pos c, wX W.kt am];by_cases e : x = a
   ·rw [e]; exact ⟨fun _ => key.mp c, fun _ => .inr rfl⟩
   ·rw [<- h x fun z => (Qs.mp z).elim e hx];exact ⟨fun z => z.resolve_right e, .inl⟩
  ·rw [if_neg c];by_cases e : x = a
   ·rw [e]; exact ⟨fun z => absurd z an, fun z => absurd (key.mpr z) c⟩
   ·exact h x fun z => (Qs.mp z).elim e hx
end
theorem zuw (xs : List V) (z : V) : zbh (xs ++ [z]) none (some (-1)) = xs /\ ¬ (HT.sIx (xs ++ [z]).length 0 none = 0 /\ HT.sIx (xs ++ [z]).length (xs ++ [z]).length (some (-1)) = (xs ++ [z]).length) := by
 have l : (xs ++ [z]).length = xs.length + 1 := by simp
 have e : HT.sIx (xs ++ [z]).length (xs ++ [z]).length (some (-1)) = xs.length := by
  rw [l];show (if (-1 : Int) < 0 then ((-1 : Int) + ((xs.length + 1 : Nat) : Int)).toNat else min (-1 : Int).toNat (xs.length + 1)) = _;rw [if_pos (by decide)];omega
 constructor
 ·unfold zbh;rw [e, show HT.sIx (xs ++ [z]).length 0 none = 0 from rfl, List.drop_zero, Nat.sub_zero, List.take_left' rfl]
 ·rw [e, l];omega
def treeO (n : Int) (ps : List (Int × Int)) (pick ord : List Int) : List Int := trG ps.length (rkP n ps) (zT n ps) pick ord.reverse []
def zvk (K : W.Frag) : Sp := fun vs H Q _ => ∃ (wv : V) (ta aa : Addr) (n : Int) (ps : List (Int × Int)) (t ah : List Int), vs = [wv, .ref ta, .ref aa] /\ WebAt H wv n ps /\ xR n ps /\ SqT K H ta (t.map V.int) /\ SqT K H aa (ah.map V.int) /\ Ks ps.length t /\ Ks ps.length ah /\ t.length <= 8 /\ ah.length <= 8 /\
 ∀ H', Same H H' -> Q (.bl (decide (rkP n ps (t ++ ah) < zT n ps))) H'
def zjn (K : W.Frag) : Sp := fun vs H Q _ => ∃ (kd : Kd) (wv o : V) (pk : Addr) (n : Int) (ps : List (Int × Int)) (pick ord : List Int), vs = [wv, .ref pk, o] /\ WebAt H wv n ps /\ xR n ps /\ SqT K H pk (pick.map V.int) /\ OrdAt kd H o ps.length ord /\
 ∀ g H', Same H H' -> H' g = some (.tup ((treeO n ps pick ord).map V.int)) -> Q (.ref g) H'
theorem zrn {n : Int} {ps : List (Int × Int)} (ok : xR n ps) {ord : List Int} (pm : ord.Perm (ups ps.length)) : WalkT ps.length (rkP n ps) (zT n ps) ord.reverse [] := by
 obtain ⟨⟨n1, n9⟩, hb, h8⟩ := ok;have o := wT n1 n9 hb;have ko : Ks ps.length ord.reverse := fun k hk => mem_ups.mp (pm.mem_iff.mp (Jl.mp hk));refine ⟨(fun _ z => nomatch z), .nil, ko, ?_, (fun _ z => nomatch z), o.nil, ?_⟩
 ·exact ((List.reverse_perm ord).trans pm).nodup_iff.mpr (yZ (xS _))
 ·rw [Wf];exact o.same ko (wR _) fun k => by rw [Jl]; exact pm.mem_iff
theorem zjg {n : Int} {ps : List (Int × Int)} (ok : xR n ps) {t : List Int} (h : t ∈ zX n ps) : zso n ps t := tree_of ok h
section
variable {P : Program} {w : World} {K : W.Frag} {mg : Str -> Option Value} {base : Heap}
theorem ztb : zL ["web", "tree", "ahead"] ["web", "tree", "ahead"] (zE zbt) := ⟨rfl, rfl, rfl, by decide +kernel, rfl, by decide +kernel, by decide +kernel⟩
theorem zuq (T : Txt K mg) (S : Src K mg "is_needed" zbt ["web", "tree", "ahead"]) (DR : Def P w K mg base 2 "rank_of" ["web", "pick"] (zdl K)) (DW : Def P w K mg base 3 "rank_of_web" ["web"] (zbn K)) : Def P w K mg base 4 "is_needed" ["web", "tree", "ahead"] (zvk K) := by
 refine S.def ztb (fun vs H Q E h => ?_) (fun f cdv A outer s H vs Q E hr h => ?_)
 ·obtain ⟨_, _, _, _, _, _, _, rfl, _⟩ := h; rfl
 ·obtain ⟨wv, ta, aa, n, ps, t, ah, rfl, W, ok, hta, haa, kt, ka, tl, al, q⟩ := h;obtain ⟨⟨n1, n9⟩, hb, h8⟩ := id ok;have hr2 : Room 2 _ := hr.mono (by decide);have hr3 : Room 3 _ := hr.mono (by decide);refine ⟨_, zG (zO (qF zAs (zH DR hr2 rfl (zA (pv 0) (zA (zY (yG K) rfl T.tuple yH (zA (zN vI (by rfl) T.sorted xT (zA (zQ zon (pv 1) (pv 2)) zB)) zB)) zB))) (zH DW hr3 rfl (zA (pv 0) zB)) (yQ _))), ?_⟩;refine ⟨_, rfl, _, rfl, _, rfl, ta, aa, _, _, rfl, rfl, hta, haa, ?_, fun p H1 s1 hp => ?_⟩
  ·rw [Qj, Qj];exact J9 (qH (by omega))
  rw [<- Qu] at hp;refine ⟨p, t ++ ah, rfl, hp, by rw [Q3]; omega, fun l ms pm um hl => ?_⟩;have s2 := s1.trans (Same.new (o := HO.lst (ms.map V.int)) hl);have h2 : (upd H1 l (.lst (ms.map V.int))) l = some (.lst (ms.map V.int)) := zC;generalize upd H1 l (.lst (ms.map V.int)) = H2 at s2 h2 ⊢;refine ⟨l, _, rfl, .inl ⟨SqL.of h2, fun t3 ht3 => ?_⟩⟩;have s3 := s2.trans (Same.new (o := HO.tup (ms.map V.int)) ht3);have h3 : (upd H2 t3 (.tup (ms.map V.int))) t3 = some (.tup (ms.map V.int)) := zC;generalize upd H2 t3 (.tup (ms.map V.int)) = H3 at s3 h3 ⊢;have km : Ks ps.length ms := fun k hk => zR kt ka k (pm.mem_iff.mp hk);refine ⟨wv, t3, n, ps, ms, rfl, W.same s3, n1, n9, hb, SqT.of h3, km, fun H4 s4 => ?_⟩;refine ⟨_, rfl, wv, n, ps, rfl, W.same (s3.trans s4), n1, n9, hb, h8, fun H5 s5 => ⟨_, _, rfl, rfl, ?_⟩⟩;have e : rkP n ps ms = rkP n ps (t ++ ah) := (wT n1 n9 hb).same km (zR kt ka) fun k => pm.mem_iff;have q' := q H5 ((s3.trans s4).trans s5);rw [<- e] at q';exact q'
theorem scTreeOf : zL ["web", "pick", "order", "ahead", "tree", "k"] ["web", "pick", "order"] (zE jJ) := ⟨rfl, rfl, rfl, by decide +kernel, rfl, by decide +kernel, by decide +kernel⟩
theorem zuo (T : Txt K mg) (S : SrcD K mg "tree_of" jJ ["web", "pick", "order"]) (DT : Def P w K mg base 3 "told_order" ["web", "order"] (zhl K)) (DN : Def P w K mg base 4 "is_needed" ["web", "tree", "ahead"] (zvk K)) (DH : Def P w K mg base 1 "heads_of" ["web", "pick"] (gK K)) (DA : Def P w K mg base 1 "leads_across" ["web", "heads", "k"] (zcu K)) : zhf P w K mg base 5 "tree_of" ["web", "pick", "order"] (zjn K) := by
 refine SrcD.defX S scTreeOf (fun vs H Q E h => ?_) (fun f cdv A outer s H vs Q E hr h => ?_)
 ·obtain ⟨_, _, _, _, _, _, _, _, rfl, _⟩ := h; rfl
 ·obtain ⟨kd, wv, o, pk, n, ps, pick, ord, rfl, W, ok, hpk, ho, q⟩ := h;obtain ⟨⟨n1, n9⟩, hb, h8⟩ := id ok;have RO := wT n1 n9 hb;have hr1 : Room 1 _ := hr.mono (by decide);have hr2 : Room 2 _ := hr.mono (by decide);have ol : ord.length <= 8 := by rw [ho.perm.length_eq, yP]; omega
  refine ⟨_, PSs.nox (zD (zJ (i := 3) scTreeOf.nd rfl (Or.inl rfl) (zH DT (hr.mono (by decide)) rfl (zA (pv 0) (zA (pv 2) zB))))
   (zD (zJ (i := 4) scTreeOf.nd rfl (Or.inl rfl) (y8 zB))
   (zD (kX PassesOwn.never (kW (pv 3) (fun _ => rfl))
    (zD (zJ (i := 5) scTreeOf.nd rfl (Or.inl rfl) (yO (yI K) (pv 3) (zec kG zF) (fun _ _ => rfl)))
    (zD (zJ (i := 3) scTreeOf.nd rfl (Or.inl rfl) (kY (znt K) (pv 3) zoe (jK (zec kG zF))))
    (zG (wU (PW.pt (zlz (vE (zH DN hr rfl (zA (pv 0) (zA (pv 4) (zA (pv 3) zB))))) (zie (PW.pt (zCm (yF zfa (pv 5) (pv 1) rfl) (zyf (vE (zH DA hr1 rfl (zA (pv 0) (zA (zH DH hr1 rfl (zA (pv 0) (zA (pv 4) zB))) (zA (pv 5) zB)))))))))))
     (zG (zJ (i := 4) scTreeOf.nd rfl (Or.inl rfl) (zY (yG K) rfl T.tuple yH (zA (zN vI (by rfl) T.sorted xT (zA (zQ zon (pv 4) (y8 (zA (pv 5) zB))) zB)) zB)))) xB)))))
   (zG (zO (pv 4)))))), ?_⟩
  refine ⟨_, rfl, _, rfl, kd, wv, o, n, ps, ord, rfl, W, h8, ho, fun t1 H1 s1 h1 => ?_⟩;dsimp only [List.set];refine ⟨Jj _, fun e he => ?_⟩;have s2 := s1.trans (Same.new (o := HO.tup []) he);have h2 : (upd H1 e (.tup [])) e = some (.tup (([] : List Int).map V.int)) := zC;have ht2 := h1.same (Same.new (o := HO.tup []) he);generalize upd H1 e (.tup []) = H2 at s2 h2 ht2 ⊢;dsimp only [List.set];refine ⟨fun m σ H' => ∃ (aa ta : Addr) (ah t : List Int) (u : Option V), m = ah.length /\ σ = [some wv, some (.ref pk), some o, some (.ref aa), some (.ref ta), u] /\ Same H H' /\ SqT K H' aa (ah.map V.int) /\ H' ta = some (.tup (t.map V.int)) /\ WalkT ps.length (rkP n ps) (zT n ps) ah.reverse t /\ trG ps.length (rkP n ps) (zT n ps) pick ah.reverse t = treeO n ps pick ord,
   ⟨_, t1, e, ord, [], _, rfl, rfl, s2, FzT.sq ht2, h2, zrn ok ho.perm, rfl⟩, ?_⟩
  rintro m σ H3 ⟨aa, ta, ah, t, u, rfl, rfl, s3, haa, hta, Wk, eT⟩;refine ⟨_, rfl, _, .inr (.inl ⟨_, haa, rfl⟩), ?_⟩;rcases List.eq_nil_or_concat ah with rfl | ⟨ah', k, e1⟩
  ·refine wL ⟨_, rfl, q ta H3 s3 ?_⟩;rw [<- eT];exact hta
  ·have e1 : ah = ah' ++ [k] := by rw [e1, List.concat_eq_append]
   subst e1;have er : (ah' ++ [k]).reverse = k :: ah'.reverse := by rw [List.reverse_append]; rfl
   rw [er] at Wk eT;have em : (ah' ++ [k]).map V.int = ah'.map V.int ++ [V.int k] := by rw [Qu]; rfl
   have ez : (!((ah' ++ [k]).map V.int).isEmpty) = true := by rw [em]; simp
   rw [ez];refine jP ⟨fun σ' H' => ∃ (aa ta : Addr) (t : List Int) (u : Option V), σ' = [some wv, some (.ref pk), some o, some (.ref aa), some (.ref ta), u] /\ Same H H' /\ SqT K H' aa (ah'.map V.int) /\ H' ta = some (.tup (t.map V.int)) /\ WalkT ps.length (rkP n ps) (zT n ps) ah'.reverse t /\ trG ps.length (rkP n ps) (zT n ps) pick ah'.reverse t = treeO n ps pick ord,
    fun σ' H' ⟨aa, ta, t, u, r1, r2, r3, r4, r5, r6⟩ => ⟨_, by rw [Q3]; show ah'.length < ah'.length + 1; omega, aa, ta, ah', t, u, rfl, r1, r2, r3, r4, r5, r6⟩, ?_⟩
   have km := Wk.kr k Qk;have k1 := v6 km.1 km.2;have ka : Ks ps.length ah' := fun x hx => Wk.kr x (Qy _ (Jl.mpr hx));have tl : t.length <= 8 := by have := kJ (by omega) (yZ Wk.up) Wk.kt; omega
   have al : ah'.length <= 8 := by
    have := kJ (n := (ps.length : Int)) (by omega) (Jy.mp Wk.nd).2 fun x hx => ka x (Jl.mp hx);rw [List.length_reverse] at this;omega
   have al2 : atI ((ah' ++ [k]).map V.int) (-1) = some (.int k) := by rw [em]; exact zlk _ _
   refine ⟨_, rfl, _, rfl, aa, _, _, _, rfl, rfl, haa, al2, ?_⟩;dsimp only [List.set];obtain ⟨ec, nw⟩ := zuw (ah'.map V.int) (.int k);rw [<- em] at ec nw;refine ⟨_, rfl, _, rfl, _, rfl, aa, _, rfl, haa, nw, fun p4 hp4 => ?_⟩;rw [ec];have s4 := Same.new (o := HO.tup (ah'.map V.int)) hp4;have h4 : (upd H3 p4 (.tup (ah'.map V.int))) p4 = some (.tup (ah'.map V.int)) := zC;have hta4 := s4 _ _ hta;have s34 := s3.trans s4;generalize upd H3 p4 (.tup (ah'.map V.int)) = H4 at s34 h4 hta4 ⊢;dsimp only [List.set];have en : decide (rkP n ps (t ++ ah') < zT n ps) = decide (rkP n ps (t ++ ah'.reverse) < zT n ps) := by
    have := RO.same (X := t ++ ah') (Y := t ++ ah'.reverse) (zR Wk.kt ka) (zR Wk.kt fun x hx => ka x (Jl.mp hx)) fun x => by rw [Qr, Qr, Jl]
    rw [this]
   have ea : apart (hdF ps (ups n) t) (yE ps k) = !decide (rkP n ps (t ++ [k]) = rkP n ps t) := by
    have := qM n1 hb Wk.kt km.1 km.2;unfold apart;rw [xX, xX, this];congr 1;rw [decide_eq_decide];split <;> omega
   have yes : ∀ H5, Same H4 H5 -> wM (rkP n ps) (zT n ps) pick t ah'.reverse k = true -> ∀ (ta' : Addr) (H6 : Hp), Same H5 H6 -> H6 ta' = some (.tup ((zkx ps.length t k).map V.int)) -> ∃ (aa ta : Addr) (t : List Int) (u : Option V), [some wv, some (.ref pk), some o, some (.ref p4), some (.ref ta'), some (.int k)] = [some wv, some (.ref pk), some o, some (.ref aa), some (.ref ta), u] /\ Same H H6 /\ SqT K H6 aa (ah'.map V.int) /\ H6 ta = some (.tup (t.map V.int)) /\ WalkT ps.length (rkP n ps) (zT n ps) ah'.reverse t /\ trG ps.length (rkP n ps) (zT n ps) pick ah'.reverse t = treeO n ps pick ord := fun H5 s5 c ta' H6 s6 h6 => by
    have St := Wk.step RO (pick := pick);rw [if_pos c] at St;refine ⟨p4, ta', zkx ps.length t k, _, rfl, s34.trans (s5.trans s6), SqT.of ((s5.trans s6) _ _ h4), h6, St, ?_⟩;rw [<- eT];show _ = trG _ _ _ _ _ (if wM _ _ _ _ _ _ = true then _ else _);rw [if_pos c]
   have no : ∀ H5, Same H4 H5 -> wM (rkP n ps) (zT n ps) pick t ah'.reverse k = false -> ∃ (aa ta' : Addr) (t : List Int) (u : Option V), [some wv, some (.ref pk), some o, some (.ref p4), some (.ref ta), some (.int k)] = [some wv, some (.ref pk), some o, some (.ref aa), some (.ref ta'), u] /\ Same H H5 /\ SqT K H5 aa (ah'.map V.int) /\ H5 ta' = some (.tup (t.map V.int)) /\ WalkT ps.length (rkP n ps) (zT n ps) ah'.reverse t /\ trG ps.length (rkP n ps) (zT n ps) pick ah'.reverse t = treeO n ps pick ord := fun H5 s5 c => by
    have St := Wk.step RO (pick := pick);rw [if_neg (by rw [c]; decide)] at St;refine ⟨p4, ta, t, _, rfl, s34.trans s5, SqT.of (s5 _ _ h4), s5 _ _ hta4, St, ?_⟩;rw [<- eT];show _ = trG _ _ _ _ _ (if wM _ _ _ _ _ _ = true then _ else _);rw [if_neg (by rw [c]; decide)]
   have sorted : ∀ ms : List Int, ms.Perm (t ++ [k]) -> ms.Pairwise (· <= ·) -> ms = zkx ps.length t k := fun ms pm um => by
    have kn : k ∉ t := fun z => Wk.dis k z Qk;have ndk : (t ++ [k]).Nodup := by
     rw [W5];exact ⟨yZ Wk.up, Jy.mpr ⟨(fun z => nomatch z), .nil⟩, fun a ha b hb => by rw [Qx.mp hb]; exact fun z => kn (by rw [<- z]; exact ha)⟩
    refine gN (pm.trans (vS ndk (yZ (zim t k)) fun x => ?_)) um ((zim t k).imp fun h => by omega);rw [wX Wk.kt km, Qr, Qx]
   refine ⟨_, rfl, _, rfl, _, rfl, wv, ta, p4, n, ps, t, ah', rfl, W.same s34, ok, SqT.of hta4, SqT.of h4, Wk.kt, ka, tl, al, fun H5 s5 => ⟨_, rfl, ?_⟩⟩;rw [en];have put : ∀ H6, Same H5 H6 -> wM (rkP n ps) (zT n ps) pick t ah'.reverse k = true -> zEk (tCB (fun xs H Q => ∃ p ys, xs = [.ref p] /\ ((SqL K H p ys /\ ∀ l, H l = none -> Q (.ref l) (upd H l (.tup ys))) \/ (SqT K H p ys /\ Q (.ref p) H))) (zbl (tCB (fun xs H Q => ∃ (p : Addr) (ns : List Int), xs = [.ref p] /\ SqT K H p (ns.map V.int) /\ ns.length < 64 /\ ∀ (l : Addr) (ms : List Int), ms.Perm ns -> ms.Pairwise (· <= ·) -> H l = none -> Q (.ref l) (upd H l (.lst (ms.map V.int)))) (zbl (tOp (zAq K) (zlr 4) (zEj (zbl (zlr 5) zsk))) zsk)) zsk)) (yB 4) { nx := fun σ' H' => ∃ (aa ta : Addr) (t : List Int) (u : Option V), σ' = [some wv, some (.ref pk), some o, some (.ref aa), some (.ref ta), u] /\ Same H H' /\ SqT K H' aa (ah'.map V.int) /\ H' ta = some (.tup (t.map V.int)) /\ WalkT ps.length (rkP n ps) (zT n ps) ah'.reverse t /\ trG ps.length (rkP n ps) (zT n ps) pick ah'.reverse t = treeO n ps pick ord, rt := Q } [some wv, some (.ref pk), some o, some (.ref p4), some (.ref ta), some (.int k)] H6 := fun H6 s6 c => by
    have hta6 := (s5.trans s6) _ _ hta4;refine ⟨_, rfl, _, rfl, by show 1 <= sizeLine; decide, fun d hd => ?_⟩;have s7 := Same.new (o := HO.tup [.int k]) hd;refine ⟨ta, d, _, _, rfl, rfl, SqT.of (s7 _ _ hta6), SqT.of zC, ?_, fun p H8 s8 hp => ?_⟩
    ·rw [Qj];exact J9 (qH (show t.length + 1 <= 300 by omega))
    have hp : SqT K H8 p ((t ++ [k]).map V.int) := by rw [Qu]; exact hp
    refine ⟨p, t ++ [k], rfl, hp, by rw [Q3]; show t.length + 1 < 64; omega, fun l ms pm um hl => ?_⟩;rw [sorted ms pm um];refine ⟨l, _, rfl, .inl ⟨SqL.of zC, fun t9 ht9 => ?_⟩⟩;exact yes H5 s5 c t9 _ (s6.trans (s7.trans (s8.trans ((Same.new hl).trans (Same.new ht9))))) zC
   by_cases c1 : decide (rkP n ps (t ++ ah'.reverse) < zT n ps) = true
   ·rw [c1];refine jP (jP (put H5 (Same.refl _) ?_));unfold wM;rw [c1];rfl
   ·have c1 : decide (rkP n ps (t ++ ah'.reverse) < zT n ps) = false := W7.mpr c1;rw [c1];refine wL ⟨_, rfl, _, rfl, pk, _, rfl, .inr (sqT (s34.trans s5) hpk), rfl, gF _, _, rfl, ?_⟩;rw [if_neg (by decide), gW];by_cases c2 : k ∈ pick
    ·rw [Q2 c2];refine jP ⟨_, rfl, _, rfl, _, rfl, wv, ta, n, ps, t, rfl, W.same (s34.trans s5), n1, n9, hb, SqT.of (s5 _ _ hta4), Wk.kt, fun lh H6 s6 hlh => ⟨_, rfl, ?_⟩⟩;refine ⟨wv, lh, n, ps, _, k, rfl, W.same (s34.trans (s5.trans s6)), hlh, by rw [gX, yP]; omega, hb, km, _, rfl, ?_⟩;rw [ea];by_cases c3 : rkP n ps (t ++ [k]) = rkP n ps t
     ·rw [Q2 c3];refine wL (no H6 (s5.trans s6) ?_);unfold wM;rw [c1, Q2 c3, Bool.not_true, Bool.and_false, Bool.or_false]
     ·rw [Q8 c3];refine jP (put H6 s6 ?_);unfold wM;rw [Q2 c2, Q8 c3];simp
    ·rw [Q8 c2];refine wL (wL (no H5 s5 ?_));unfold wM;rw [c1, Q8 c2];rfl
end
theorem znl : ∀ {A B : List Int} {k : Int}, k ∉ A -> (A ++ k :: B).take (wY (A ++ k :: B) k) = A
 | [], B, k, _ => by
  show (k :: B).take (if k = k then 0 else _) = [];rw [if_pos rfl];rfl
 | a :: A, B, k, h => by
  have ne : ¬ a = k := fun z => h (by rw [z]; exact Qk);show (a :: (A ++ k :: B)).take (if a = k then 0 else wY (A ++ k :: B) k + 1) = a :: A;rw [if_neg ne, List.take_succ_cons, znl fun z => h (Qy _ z)]
def zij (n : Int) (ps : List (Int × Int)) (pick t ord : List Int) : Bool := decide ((t.filter fun k => !decide (k ∈ pick) && !decide (k ∈ zkn n ps t ord)) = []) && decide ((pick.filter fun k => !decide (k ∈ t) && !decide (k ∈ gA n ps t ord)) = [])
section
variable {n : Int} {ps : List (Int × Int)}
theorem mem_lin {t ord : List Int} {g : Int} : g ∈ zkn n ps t ord ↔ g ∈ t /\ ∀ c ∈ ord.take (wY ord g), c ∉ t -> mkB n ps t g c = false := by
 unfold zkn;rw [Qg, Wg, List.any_eq_false];refine and_congr Iff.rfl ⟨fun h c hc ct => ?_, fun h c hc => ?_⟩
 ·exact W7.mpr (h c (Qg.mpr ⟨hc, by simp [ct]⟩))
 ·obtain ⟨h1, h2⟩ := Qg.mp hc;rw [h c h1 (by simpa using h2)];decide
theorem mem_lout {t ord : List Int} {c : Int} : c ∈ gA n ps t ord ↔ (0 <= c /\ c < (ps.length : Int)) /\ c ∉ t /\ ∀ g ∈ ord.take (wY ord c), g ∈ t -> mkB n ps t g c = false := by
 unfold gA;rw [Qg, Q5, Wg, Wg, List.any_eq_false, mem_ups, decide_eq_false_iff_not];refine and_congr Iff.rfl (and_congr Iff.rfl ⟨fun h g hg gt => ?_, fun h g hg => ?_⟩)
 ·exact W7.mpr (h g (Qg.mpr ⟨hg, by simp [gt]⟩))
 ·obtain ⟨h1, h2⟩ := Qg.mp hg;rw [h g h1 (Jf h2)];decide
theorem lies_iff {pick t ord : List Int} : zij n ps pick t ord = true ↔ (∀ k ∈ t, k ∉ pick -> k ∈ zkn n ps t ord) /\ ∀ k ∈ pick, k ∉ t -> k ∈ gA n ps t ord := by
 unfold zij;rw [Q5, Qc, Qc, List.filter_eq_nil_iff, List.filter_eq_nil_iff];refine and_congr ⟨fun h k hk hp => ?_, fun h k hk => ?_⟩ ⟨fun h k hk hp => ?_, fun h k hk => ?_⟩
 ·have := h k hk;by_cases z : k ∈ zkn n ps t ord
  ·exact z
  ·simp [hp, z] at this
 ·by_cases hp : k ∈ pick
  ·simp [hp]
  ·simp [h k hk hp]
 ·have := h k hk;by_cases z : k ∈ gA n ps t ord
  ·exact z
  ·simp [hp, z] at this
 ·by_cases hp : k ∈ t
  ·simp [hp]
  ·simp [h k hk hp]
theorem qZ {ord pre post : List Int} {k : Int} (nd : ord.Nodup) (e : ord.reverse = pre ++ k :: post) : ∀ c, c ∈ ord.take (wY ord k) ↔ c ∈ post := by
 have e2 : ord = post.reverse ++ k :: pre.reverse := by
  have := congrArg List.reverse e;rw [List.reverse_reverse, List.reverse_append, List.reverse_cons, Jc] at this;exact this
 have nk : k ∉ post.reverse := by
  rw [e2] at nd;intro z;exact (W5.mp nd).2.2 k z k Qk rfl
 intro c;rw [e2, znl nk, Jl]
variable (ok : xR n ps) {ord : List Int} (pm : ord.Perm (ups ps.length))
include ok pm
theorem zeq (pick : List Int) : WalkT ps.length (rkP n ps) (zT n ps) [] (treeO n ps pick ord) := by
 obtain ⟨⟨n1, n9⟩, hb, h8⟩ := id ok;exact (zcr (wT n1 n9 hb) _ _ (zrn ok pm)).1
theorem zcs (pick : List Int) : treeO n ps pick ord ∈ zX n ps := by
 have W := zeq ok pm pick;have f := W.full;rw [Jw] at f;have i := W.ind;have t : zow n ps (treeO n ps pick ord) = true := by
  unfold zow;rw [Q5, Qc, Qc];exact ⟨by lia, f⟩
 rw [zde ok.2.2 W.kt W.up, Qc] at t;exact t
theorem zsg {t : List Int} (T : zso n ps t) (hR : (t.length : Int) = zT n ps) {g c : Int} (c0 : 0 <= c /\ c < (ps.length : Int)) : mkB n ps t g c = false ↔ rkP n ps (yJ t g ++ [c]) ≠ zT n ps := by
 obtain ⟨⟨n1, n9⟩, hb, h8⟩ := id ok;have kd : Ks ps.length (yJ t g ++ [c]) := zR (fun x hx => T.ks x (drop_mem.mp hx).1) (v6 c0.1 c0.2);unfold mkB;rw [<- zid n1 n9 hb kd, hR, decide_eq_false_iff_not]
theorem ztw (pick : List Int) (kp : Ks ps.length pick) : zij n ps pick (treeO n ps pick ord) ord = true := by
 obtain ⟨⟨n1, n9⟩, hb, h8⟩ := id ok;have L := zel (wT n1 n9 hb) (pick := pick) _ _ (zrn ok pm);have TR := zjg ok (zcs ok pm pick);have hR := xJ (zcs ok pm pick);have nd : ord.Nodup := pm.nodup_iff.mpr (yZ (xS _));have inn : ∀ c ∈ ord, 0 <= c /\ c < (ps.length : Int) := fun c hc => mem_ups.mp (pm.mem_iff.mp hc);have split : ∀ k, 0 <= k /\ k < (ps.length : Int) -> ∃ pre post, ord.reverse = pre ++ k :: post := fun k hk => List.append_of_mem (Jl.mpr (pm.mem_iff.mpr (mem_ups.mpr hk)));refine lies_iff.mpr ⟨fun k hk hp => ?_, fun k hk hp => ?_⟩
 ·obtain ⟨pre, post, e⟩ := split k (TR.ks k hk);refine mem_lin.mpr ⟨hk, fun c hc _ => ?_⟩;exact (zsg ok pm TR hR (inn c (List.mem_of_mem_take hc))).mpr ((L pre k post e).1 hk hp c ((qZ nd e c).mp hc))
 ·obtain ⟨pre, post, e⟩ := split k (kp k hk);refine mem_lout.mpr ⟨kp k hk, hp, fun g hg gt => ?_⟩;exact (zsg ok pm TR hR (kp k hk)).mpr ((L pre k post e).2 hk hp g ((qZ nd e g).mp hg) gt)
theorem zqm {pick t : List Int} (ht : t ∈ zX n ps) (h : zij n ps pick t ord = true) : t = treeO n ps pick ord := by
 obtain ⟨⟨n1, n9⟩, hb, h8⟩ := id ok;have o := wT n1 n9 hb;have TR := zjg ok ht;have hR := xJ ht;have rt : rkP n ps t = (t.length : Int) := by rw [xX]; have := TR.rk; lia
 obtain ⟨h1, h2⟩ := lies_iff.mp h;have nd : ord.Nodup := pm.nodup_iff.mpr (yZ (xS _));have inn : ∀ c ∈ ord, 0 <= c /\ c < (ps.length : Int) := fun c hc => mem_ups.mp (pm.mem_iff.mp hc);have W0 := zrn ok pm;have key := zek o (pick := pick) (R := zT n ps) TR.ks TR.up rt (by lia) (fun X hX => o.mono hX (wR _) fun k hk => mem_ups.mpr (hX k hk)) _ _ W0 (fun x hx => ⟨fun z => (nomatch z), fun z => absurd (Jl.mpr (pm.mem_iff.mpr (mem_ups.mpr (TR.ks x z)))) hx⟩) fun pre k post e => ⟨fun hk hp c hc ct => ?_, fun hk hp g hg gt => ?_⟩
 ·exact zln TR.up (zeq ok pm pick).up fun x => (key x).symm
 ·have hc' := (qZ nd e c).mpr hc;exact (zsg ok pm TR hR (inn c (List.mem_of_mem_take hc'))).mp ((mem_lin.mp (h1 k hk hp)).2 c hc' ct)
 ·have hg' := (qZ nd e g).mpr hg;obtain ⟨k0, _, h3⟩ := mem_lout.mp (h2 k hk hp);exact (zsg ok pm TR hR k0).mp (h3 g hg' gt)
end
def gQ (t I : List Int) : List Int := t.filter fun k => !decide (k ∈ I)
theorem mem_off {t I : List Int} {k : Int} : k ∈ gQ t I ↔ k ∈ t /\ k ∉ I := by
 unfold gQ;rw [Qg];simp
theorem ztr (t I : List Int) (g : Int) : gQ t (g :: I) = yJ (gQ t I) g := by
 unfold gQ yJ;rw [List.filter_filter];refine W6 fun k _ => ?_;rw [Jp];simp [not_or]
theorem zyj (t : List Int) : gQ t [] = t := by
 unfold gQ;exact List.filter_eq_self.mpr fun k _ => by simp
theorem zvy {t : List Int} (up : t.Pairwise (· < ·)) (I : List Int) : (gQ t I).Pairwise (· < ·) := up.filter _
theorem gP {t : List Int} (up : t.Pairwise (· < ·)) : ∀ I : List Int, I.Nodup -> (∀ g ∈ I, g ∈ t) -> (gQ t I).length + I.length = t.length
 | [], _, _ => by rw [zyj]; rfl
 | g :: I, nd, h => by
  obtain ⟨g1, nd2⟩ := Jy.mp nd;have ih := gP up I nd2 fun x hx => h x (Qy _ hx);have e := wQ (zvy up I) (mem_off.mpr ⟨h g Qk, g1⟩);rw [ztr, Jh];lia
section
variable {m : Nat} {r : List Int -> Int} (o : RankOk m r) {t : List Int} (kt : Ks m t) (up : t.Pairwise (· < ·)) (rt : r t = (t.length : Int))
include o kt up rt
end
section
variable {n : Int} {ps : List (Int × Int)}
end
def sm {α : Type} (l : List α) (f : α -> Int) : Int := (l.map f).sum
theorem jI {α : Type} (a : α) (l : List α) (f : α -> Int) : sm (a :: l) f = f a + sm l f := rfl
theorem zsy {α : Type} {f g : α -> Int} {l : List α} (h : ∀ a ∈ l, f a = g a) : sm l f = sm l g := by
 unfold sm;rw [Jm h]
theorem zBu {α β : Type} (l : List α) (u : α -> β) (f : β -> Int) : sm (l.map u) f = sm l fun a => f (u a) := by
 unfold sm;rw [Wr];rfl
theorem zxp {α : Type} {l k : List α} (h : l.Perm k) (f : α -> Int) : sm l f = sm k f := by
 induction h with
 | nil => rfl
 | cons a _ ih => rw [jI, jI, ih]
 | swap a b l => rw [jI, jI, jI, jI]; lia
 | trans _ _ h1 h2 => rw [h1, h2]
section
variable (T I O : Int -> Bool)
end
section
variable {n : Int} {ps : List (Int × Int)}
end
abbrev T3 := Int × Int × Int
def k3 (t : T3) : Int × Int := (t.1, t.2.1)
def coef (ts : List T3) (k : Int × Int) : Int := ((ts.filter fun t => decide (k3 t = k)).map (·.2.2)).sum
theorem zZ (t : T3) (ts : List T3) (k : Int × Int) : coef (t :: ts) k = (if k3 t = k then t.2.2 else 0) + coef ts k := by
 unfold coef;by_cases h : k3 t = k
 ·rw [Wq (by simpa using h), if_pos h, Qm, Ww]
 ·rw [Wh (by simpa using h), if_neg h, Int.zero_add]
theorem gC (a b : List T3) (k : Int × Int) : coef (a ++ b) k = coef a k + coef b k := by
 induction a with
 | nil => show coef b k = 0 + coef b k; lia
 | cons t a ih => rw [List.cons_append, zZ, zZ, ih]; lia
theorem xZ {ts : List T3} {k : Int × Int} (h : ∀ t ∈ ts, k3 t ≠ k) : coef ts k = 0 := by
 induction ts with
 | nil => rfl
 | cons t ts ih =>
  rw [zZ, if_neg (h t (Qk ..)), ih fun u hu => h u (Qy _ hu)];lia
def jA (a b : T3) : Prop := a.1 < b.1 \/ (a.1 = b.1 /\ a.2.1 < b.2.1)
structure PolyIs (ts L : List T3) : Prop where
 up : L.Pairwise jA
 mem : ∀ t, t ∈ L ↔ t.2.2 ≠ 0 /\ t.2.2 = coef ts (k3 t)
theorem zbq : ∀ {L M : List T3}, L.Pairwise jA -> M.Pairwise jA -> (∀ t, t ∈ L ↔ t ∈ M) -> L = M
 | [], [], _, _, _ => rfl
 | [], b :: M, _, _, h => absurd ((h b).mpr (Qk ..)) (by simp)
 | a :: L, [], _, _, h => absurd ((h a).mp (Qk ..)) (by simp)
 | a :: L, b :: M, h1, h2, h => by
  obtain ⟨p1, q1⟩ := List.pairwise_cons.mp h1;obtain ⟨p2, q2⟩ := List.pairwise_cons.mp h2;have e : a = b := by
   rcases Qs.mp ((h a).mp (Qk ..)) with e | e
   ·exact e
   ·rcases Qs.mp ((h b).mpr (Qk ..)) with e' | e'
    ·exact e'.symm
    ·have x := p2 a e;have y := p1 b e';unfold jA at x y;lia
  subst e;rw [zbq q1 q2 fun t => ⟨fun ht => ?_, fun ht => ?_⟩]
  ·rcases Qs.mp ((h t).mp (Qy _ ht)) with e | e
   ·have x := p1 t ht;rw [e] at x;unfold jA at x;lia
   ·exact e
  ·rcases Qs.mp ((h t).mpr (Qy _ ht)) with e | e
   ·have x := p2 t ht;rw [e] at x;unfold jA at x;lia
   ·exact e
theorem PolyIs.uniq {ts us L M : List T3} (h1 : PolyIs ts L) (h2 : PolyIs us M) (h : ∀ k, coef ts k = coef us k) : L = M :=
 zbq h1.up h2.up fun t => by rw [h1.mem, h2.mem, h]
def kk (k : Int × Int) : List Key := [.inl k.1, .inl k.2]
theorem zng {a b : Int × Int} (h : kk a = kk b) : a = b := by
 unfold kk at h;simp only [List.cons.injEq, Sum.inl.injEq, and_true] at h;exact Prod.ext h.1 h.2
structure TabIs (ts : List T3) (kvs : qI) : Prop where
 nd : (kvs.map (·.1)).Nodup
 val : ∀ p ∈ kvs, ∃ k, p = (kk k, V.int (coef ts k))
 has : ∀ t ∈ ts, kk (k3 t) ∈ kvs.map (·.1)
 len : kvs.length <= ts.length
theorem TabIs.nil : TabIs [] [] := ⟨by simp, (fun _ h => nomatch h), (fun _ h => nomatch h), Qw _⟩
theorem zsr {kvs : qI} {k : List Key} {v : V} (h : w9 kvs k = some v) : (k, v) ∈ kvs := by
 unfold w9 at h;obtain ⟨p, hp, rfl⟩ := Option.map_eq_some_iff.mp h;have h1 := List.mem_of_find?_eq_some hp;have h2 := List.find?_some hp;have : p.1 = k := by simpa using h2
 rw [<- this];exact h1
theorem zpp {kvs : qI} {k : List Key} (h : w9 kvs k = none) : k ∉ kvs.map (·.1) := by
 unfold w9 at h;rw [Option.map_eq_none_iff] at h;intro hm;obtain ⟨p, hp, e⟩ := Ql.mp hm;have := List.find?_eq_none.mp h p hp;exact this (by simpa using e)
theorem TabIs.at {ts : List T3} {kvs : qI} (h : TabIs ts kvs) (k : Int × Int) : (w9 kvs (kk k)).getD (.int 0) = .int (coef ts k) := by
 cases e : w9 kvs (kk k) with
 | some v =>
  obtain ⟨k', e'⟩ := h.val _ (zsr e);injection e' with e1 e2;rw [zng e1, e2];rfl
 | none =>
  have := zpp e;rw [xZ fun t ht z => this (by rw [<- z]; exact h.has t ht)];rfl
theorem TabIs.put {ts : List T3} {kvs : qI} (h : TabIs ts kvs) (t : T3) : TabIs (ts ++ [t]) (qO kvs (kk (k3 t)) (.int (coef ts (k3 t) + t.2.2))) := by
 have c1 : coef (ts ++ [t]) (k3 t) = coef ts (k3 t) + t.2.2 := by
  rw [gC, zZ, if_pos rfl];show _ + (_ + 0) = _;lia
 have c2 : ∀ k, k3 t ≠ k -> coef (ts ++ [t]) k = coef ts k := fun k hk => by
  rw [gC, zZ, if_neg hk];show _ + (0 + 0) = _;lia
 refine ⟨?_, ?_, ?_, ?_⟩
 ·unfold qO;split
  ·rw [Wr];have : ((fun x : List Key × V => x.1) ∘ fun kv : List Key × V => if kv.1 = kk (k3 t) then (kv.1, V.int (coef ts (k3 t) + t.2.2)) else kv) = fun x => x.1 := by
    funext p
    show (if p.1 = kk (k3 t) then (p.1, _) else p).1 = p.1;split <;> rfl
   rw [this];exact h.nd
  ·rename_i hn
   rw [Qu, W5];refine ⟨h.nd, by simp, fun a ha b hb => ?_⟩;have : b = kk (k3 t) := by simpa using hb
   subst this;intro e;subst e;apply hn;obtain ⟨p, hp, e⟩ := Ql.mp ha;exact Ju.mpr ⟨p, hp, by simpa using e⟩
 ·intro p hp;unfold qO at hp;split at hp
  ·obtain ⟨q, hq, rfl⟩ := Ql.mp hp;obtain ⟨k, e⟩ := h.val q hq;by_cases c : q.1 = kk (k3 t)
   ·rw [if_pos c];exact ⟨k3 t, by rw [c, c1]⟩
   ·rw [if_neg c];refine ⟨k, ?_⟩;rw [e, c2 k fun z => c (by rw [e, z])]
  ·rename_i hn
   rcases Qr.mp hp with hp | hp
   ·obtain ⟨k, e⟩ := h.val p hp;refine ⟨k, ?_⟩;rw [e, c2 k fun z => hn (Ju.mpr ⟨p, hp, by rw [e, z]; simp⟩)]
   ·have : p = (kk (k3 t), V.int (coef ts (k3 t) + t.2.2)) := by simpa using hp
    exact ⟨k3 t, by rw [this, c1]⟩
 ·have keep : ∀ x ∈ kvs.map (·.1), x ∈ (qO kvs (kk (k3 t)) (V.int (coef ts (k3 t) + t.2.2))).map (·.1) := by
   intro x hx;unfold qO;split
   ·obtain ⟨p, hp, rfl⟩ := Ql.mp hx;refine Ql.mpr ⟨_, Ql.mpr ⟨p, hp, rfl⟩, ?_⟩;show (if p.1 = kk (k3 t) then (p.1, _) else p).1 = p.1;split <;> rfl
   ·rw [Qu];exact Qn _ hx
  intro u hu;rcases Qr.mp hu with hu | hu
  ·exact keep _ (h.has u hu)
  ·have : u = t := by simpa using hu
   subst this;unfold qO;split
   ·rename_i hy
    obtain ⟨p, hp, e⟩ := Ju.mp hy;have e' : p.1 = kk (k3 u) := by simpa using e
    refine Ql.mpr ⟨_, Ql.mpr ⟨p, hp, rfl⟩, ?_⟩;show (if p.1 = kk (k3 u) then (p.1, _) else p).1 = _;rw [if_pos e', e']
   ·rw [Qu];exact Qp _ (by simp)
 ·have := vB kvs (kk (k3 t)) (V.int (coef ts (k3 t) + t.2.2));have := h.len;rw [Q3];show _ <= _ + 1;lia
def zEm (p : List Key × V) : Option T3 := match p with
 | ([.inl i, .inl j], .int n) => if n = 0 then none else some (i, j, n)
 | _ => none
def sel (kvs : qI) : List T3 := kvs.filterMap zEm
theorem qE (k : Int × Int) (n : Int) : zEm (kk k, .int n) = if n = 0 then none else some (k.1, k.2, n) := rfl
theorem znv {ts : List T3} {kvs : qI} (h : TabIs ts kvs) (t : T3) : t ∈ sel kvs ↔ t.2.2 ≠ 0 /\ t.2.2 = coef ts (k3 t) := by
 unfold sel;rw [List.mem_filterMap];constructor
 ·rintro ⟨p, hp, e⟩;obtain ⟨k, rfl⟩ := h.val p hp;rw [qE] at e;by_cases c : coef ts k = 0
  ·rw [if_pos c] at e; cases e
  ·rw [if_neg c] at e;cases e
   exact ⟨c, rfl⟩
 ·rintro ⟨c, e⟩;have : ∃ u ∈ ts, k3 u = k3 t := by
   refine Classical.byContradiction fun hn => c ?_;rw [e];exact xZ fun u hu z => hn ⟨u, hu, z⟩
  obtain ⟨u, hu, eu⟩ := this;obtain ⟨p, hp, e2⟩ := Ql.mp (h.has u hu);obtain ⟨k, rfl⟩ := h.val p hp;have ek : k = k3 t := by rw [<- eu]; exact zng e2
  refine ⟨_, hp, ?_⟩;rw [qE, ek, <- e, if_neg c];rfl
theorem zjw {ts : List T3} {kvs : qI} (h : TabIs ts kvs) : ((sel kvs).map k3).Nodup := by
 have hv := h.val;have hn := h.nd;clear h
 induction kvs with
 | nil => simp [sel]
 | cons p kvs ih =>
  rw [Qm, Jy] at hn;have ih' := ih (fun q hq => hv q (Qy _ hq)) hn.2;obtain ⟨k, rfl⟩ := hv p (Qk ..);unfold sel at ih' ⊢;by_cases c : coef ts k = 0
  ·rw [List.filterMap_cons_none (by rw [qE, if_pos c])];exact ih'
  ·rw [List.filterMap_cons_some (by rw [qE, if_neg c]), Qm, Jy];refine ⟨fun hm => hn.1 ?_, ih'⟩;obtain ⟨t, ht, e⟩ := Ql.mp hm;obtain ⟨q, hq, eq⟩ := List.mem_filterMap.mp ht;obtain ⟨k', rfl⟩ := hv q (Qy _ hq);rw [qE] at eq;by_cases c' : coef ts k' = 0
   ·rw [if_pos c'] at eq; cases eq
   ·rw [if_neg c'] at eq;cases eq
    have : k' = k := e;subst this;exact Ql.mpr ⟨_, hq, rfl⟩
theorem zgr {ts : List T3} {kvs : qI} (h : TabIs ts kvs) : (sel kvs).length <= ts.length := Jx (List.length_filterMap_le ..) h.len
def l3 (t : T3) : List Int := [t.1, t.2.1, t.2.2]
def u3 (l : List Int) : T3 := (l.getD 0 0, l.getD 1 0, l.getD 2 0)
theorem zAg (t : T3) : u3 (l3 t) = t := rfl
theorem zDh {a b : T3} (h : qN (l3 a) (l3 b)) (ne : k3 a ≠ k3 b) : jA a b := by
 unfold qN l3 at h;rw [HT.lexLt_cons] at h;unfold jA;by_cases e : b.1 = a.1
 ·rw [if_pos e, HT.lexLt_cons] at h;by_cases e2 : b.2.1 = a.2.1
  ·exact absurd (show (a.1, a.2.1) = (b.1, b.2.1) by rw [e, e2]) ne
  ·rw [if_neg e2] at h;have := Wj h;exact .inr ⟨e.symm, by lia⟩
 ·rw [if_neg e] at h;have := Wj h;exact .inl (by lia)
theorem zam {ts : List T3} {kvs : qI} (h : TabIs ts kvs) {kss : List (List Int)} (hp : kss.Perm ((sel kvs).map l3)) (hs : kss.Pairwise qN) : ∃ L, kss = L.map l3 /\ PolyIs ts L /\ L.length <= ts.length := by
 have e1 : kss.map u3 |>.map l3 |> (· = kss) := by
  rw [Wr];have : ∀ x ∈ kss, (l3 ∘ u3) x = x := fun x hx => by
   obtain ⟨t, _, rfl⟩ := Ql.mp (hp.mem_iff.mp hx);show l3 (u3 (l3 t)) = l3 t;rw [zAg]
  exact (Jm this).trans (List.map_id _)
 have pm : (kss.map u3).Perm (sel kvs) := by
  have := hp.map u3;rw [Wr] at this;have e2 : (sel kvs).map (u3 ∘ l3) = sel kvs := (Jm fun t _ => zAg t).trans (List.map_id _);rw [e2] at this;exact this
 refine ⟨kss.map u3, e1.symm, ⟨?_, fun t => by rw [pm.mem_iff, znv h]⟩, by rw [pm.length_eq]; exact zgr h⟩;have nd : ((kss.map u3).map k3).Nodup := (pm.map k3).nodup_iff.mpr (zjw h);have nd2 : (kss.map u3).Pairwise fun a b => k3 a ≠ k3 b := Jt.mp nd;have s2 : (kss.map u3).Pairwise fun a b => qN (l3 a) (l3 b) := by
  rw [<- e1] at hs;exact Jt.mp hs
 exact (s2.and nd2).imp fun ⟨x, y⟩ => zDh x y
def TermAt (H : Hp) (v : V) (t : T3) : Prop := ∃ a, v = .ref a /\ H a = some (.tup [.int t.1, .int t.2.1, .int t.2.2])
theorem TermAt.same {H H' : Hp} {v : V} {t : T3} (h : TermAt H v t) (e : Same H H') : TermAt H' v t := let ⟨a, h1, h2⟩ := h; ⟨a, h1, e _ _ h2⟩
theorem yD {H H' : Hp} {xs : List V} {ts : List T3} (h : Paired (TermAt H) xs ts) (e : Same H H') : Paired (TermAt H') xs ts := L2.Paired.mapP h fun _ _ q => q.same e
theorem Same.put {H H2 : Hp} {p : Addr} {o : HO} (s : Same H H2) (h : H p = none) : Same H (upd H2 p o) := fun b u e => by rw [zU (zP e h)]; exact s b u e
structure PolyAt (H : Hp) (v : V) (L : List T3) : Prop where
 ex : ∃ c rs, v = .ref c /\ H c = some (.tup rs) /\ Paired (TermAt H) rs L
theorem PolyAt.same {H H' : Hp} {v : V} {L : List T3} (h : PolyAt H v L) (e : Same H H') : PolyAt H' v L := by
 obtain ⟨c, rs, h1, h2, h3⟩ := h.ex;exact ⟨c, rs, h1, e _ _ h2, yD h3 e⟩
theorem zpz {K : W.Frag} {H : Hp} {a b : Addr} {t : T3} (h1 : H a = some (.tup [.int t.1, .int t.2.1, .int t.2.2])) (h2 : H b = some (.tup [.int t.1, .int t.2.1, .int t.2.2])) : SameD K H 1 (.ref a) (.ref b) := by
 refine .tup (SqT.of h1) (SqT.of h2) rfl fun i u v e1 e2 => ?_;rw [e1] at e2;cases e2
 match i with
 | 0 => simp at e1; rw [<- e1]; exact .flat rfl
 | 1 => simp at e1; rw [<- e1]; exact .flat rfl
 | 2 => simp at e1; rw [<- e1]; exact .flat rfl
 | j + 3 => simp at e1
theorem zqa {K : W.Frag} {H : Hp} {v u : V} {L : List T3} (h1 : PolyAt H v L) (h2 : PolyAt H u L) {Q : VK} {out : Bool} (q : Q (.bl out) H) : zca K out v u H Q := by
 obtain ⟨c, rs, rfl, c1, t1⟩ := h1.ex;obtain ⟨c', rs', rfl, c2, t2⟩ := h2.ex;have l1 := Paired.length t1;have l2 := Paired.length t2;refine ⟨c, c', _, _, 1, rfl, rfl, .inl ⟨SqT.of c1, SqT.of c2⟩, by lia, by decide, fun j x y f1 f2 => ?_, q⟩;obtain ⟨p1, g1, a1, rfl, b1⟩ := Paired.at t1 f1;obtain ⟨p2, g2, a2, rfl, b2⟩ := Paired.at t2 f2;rw [g1] at g2;cases g2
 exact zpz b1 b2
theorem zGr {H : Hp} {b : Addr} {k : Int × Int} (h : H b = some (.tup ((kk k).map kV))) : H b = some (.tup [.int k.1, .int k.2]) := h
structure TxP (mg : Str -> Option Value) : Prop where
 isi : mg "isinstance" = none
 int : mg "int" = none
 bool : mg "bool" = none
 len : mg "len" = none
 tuple : mg "tuple" = none
 list : mg "list" = none
 range : mg "range" = none
 sorted : mg "sorted" = none
theorem Txt.p {K : W.Frag} {mg : Str -> Option Value} (T : Txt K mg) : TxP mg := ⟨T.isi, T.int, T.bool, T.len, T.tuple, T.list, T.range, T.sorted⟩
def TermK (K : W.Frag) (H : Hp) (v : V) (t : T3) : Prop := ∃ a, v = .ref a /\ SqT K H a [.int t.1, .int t.2.1, .int t.2.2]
theorem TermAt.K {K : W.Frag} {H : Hp} {v : V} {t : T3} (h : TermAt H v t) : TermK K H v t := let ⟨a, h1, h2⟩ := h; ⟨a, h1, SqT.of h2⟩
theorem TermK.same {K : W.Frag} {H H' : Hp} {v : V} {t : T3} (h : TermK K H v t) (e : Same H H') : TermK K H' v t := let ⟨a, h1, h2⟩ := h; ⟨a, h1, sqT e h2⟩
theorem zhi {K : W.Frag} {H : Hp} {xs : List V} {ts : List T3} (h : Paired (TermAt H) xs ts) : Paired (TermK K H) xs ts := L2.Paired.mapP h fun _ _ q => q.K
theorem ziu {K : W.Frag} {H H' : Hp} {xs : List V} {ts : List T3} (h : Paired (TermK K H) xs ts) (e : Same H H') : Paired (TermK K H') xs ts := L2.Paired.mapP h fun _ _ q => q.same e
structure PolyK (K : W.Frag) (H : Hp) (v : V) (L : List T3) : Prop where
 ex : ∃ c rs, v = .ref c /\ SqT K H c rs /\ Paired (TermK K H) rs L
theorem PolyAt.K {K : W.Frag} {H : Hp} {v : V} {L : List T3} (h : PolyAt H v L) : PolyK K H v L := by
 obtain ⟨c, rs, h1, h2, h3⟩ := h.ex;exact ⟨c, rs, h1, SqT.of h2, zhi h3⟩
theorem PolyK.same {K : W.Frag} {H H' : Hp} {v : V} {L : List T3} (h : PolyK K H v L) (e : Same H H') : PolyK K H' v L := by
 obtain ⟨c, rs, h1, h2, h3⟩ := h.ex;exact ⟨c, rs, h1, sqT e h2, ziu h3 e⟩
def Bd (ts : List T3) : Prop := ∀ t ∈ ts, 0 <= t.1 /\ 0 <= t.2.1 /\ t.1 + t.2.1 <= 9
def BdS (ts : List T3) : Prop := ∀ t ∈ ts, 0 <= t.2.1 /\ t.2.1 <= t.1 /\ t.1 <= 8
def cd (i j : Int) : Int := if j <= 4 then i * 5 + j else (10 - i) * 5 + (9 - j)
theorem zwn {i j k l : Int} (h1 : 0 <= i /\ 0 <= j /\ i + j <= 9) (h2 : 0 <= k /\ 0 <= l /\ k + l <= 9) (e : cd i j = cd k l) : i = k /\ j = l := by
 unfold cd at e;split at e <;> split at e <;> lia
theorem zBf {i j : Int} (h1 : 0 <= i /\ 0 <= j /\ i + j <= 9) : 0 <= cd i j /\ cd i j < 55 := by
 unfold cd;split <;> lia
theorem znw {ts : List T3} {kvs : qI} (tab : TabIs ts kvs) {t : T3} (ht : t ∈ sel kvs) : ∃ u ∈ ts, u.1 = t.1 /\ u.2.1 = t.2.1 := by
 obtain ⟨h1, h2⟩ := (znv tab t).mp ht;by_cases c : ∃ u ∈ ts, k3 u = k3 t
 ·obtain ⟨u, hu, e⟩ := c;have e1 : (k3 u).1 = (k3 t).1 := by rw [e]
  have e2 : (k3 u).2 = (k3 t).2 := by rw [e]
  exact ⟨u, hu, e1, e2⟩
 ·exact absurd (h2.trans (xZ fun u hu e => c ⟨u, hu, e⟩)) h1
theorem znx {ts : List T3} {kvs : qI} (tab : TabIs ts kvs) (g : T3 -> Int) (hg : ∀ t ∈ sel kvs, 0 <= g t /\ g t < 55) (hi : ∀ t ∈ sel kvs, ∀ u ∈ sel kvs, g t = g u -> k3 t = k3 u) : (sel kvs).length < 64 := by
 have nd : ((sel kvs).map g).Nodup := Jt.mpr ((Jt.mp (zjw tab)).imp_of_mem fun {x y} hx hy hne e => hne (hi x hx y hy e));have l := kJ (n := 55) (by decide) nd fun i h => by
  obtain ⟨t, ht, rfl⟩ := Ql.mp h;exact hg t ht
 rw [Qj] at l;lia
theorem zpw {ts : List T3} {kvs : qI} (tab : TabIs ts kvs) (b : Bd ts) : (sel kvs).length < 64 := by
 have bd : Bd (sel kvs) := fun t ht => by
  obtain ⟨u, hu, e1, e2⟩ := znw tab ht;have := b u hu;rw [e1, e2] at this;exact this
 exact znx tab (fun t => cd t.1 t.2.1) (fun t ht => zBf (bd t ht)) fun t ht u hu e => by
  obtain ⟨a, c⟩ := zwn (bd t ht) (bd u hu) e;exact Prod.ext a c
theorem zlv {ts : List T3} {kvs : qI} (tab : TabIs ts kvs) (b : BdS ts) : (sel kvs).length < 64 := by
 have bd : ∀ t ∈ sel kvs, 0 <= t.1 - t.2.1 /\ 0 <= t.2.1 /\ t.1 - t.2.1 + t.2.1 <= 9 := fun t ht => by
  obtain ⟨u, hu, e1, e2⟩ := znw tab ht;have := b u hu;lia
 exact znx tab (fun t => cd (t.1 - t.2.1) t.2.1) (fun t ht => zBf (bd t ht)) fun t ht u hu e => by
  obtain ⟨a, c⟩ := zwn (bd t ht) (bd u hu) e;exact Prod.ext (show t.1 = u.1 by lia) c
theorem zsl {n : Nat} (h : n < 100000) : n < sizeLine := Jv h (by decide)
def zhn (K : W.Frag) : Sp := fun vs H Q _ => ∃ (k : Kd) (a : Addr) (rs : List V) (ts : List T3), vs = [.ref a] /\ SqK k K H a rs /\ Paired (TermK K H) rs ts /\ ts.length < 100000 /\ Bd ts /\
 ∀ v L H', Same H H' -> PolyIs ts L -> L.length <= ts.length -> PolyAt H' v L -> Q v H'
theorem zjv {kvs : qI} {i : Nat} {p : List Key × V} (e : kvs[i]? = some p) : sel (kvs.take (i + 1)) = sel (kvs.take i) ++ (zEm p).toList := by
 unfold sel;rw [zM e, List.filterMap_append];congr 1
section
variable {P : Program} {w : World} {K : W.Frag} {mg : Str -> Option Value} {base : Heap}
theorem scGath : zL ["terms", "times_of", "i", "j", "times"] ["terms"] (zE zsa) := ⟨rfl, rfl, rfl, by decide +kernel, rfl, by decide +kernel, by decide +kernel⟩
theorem ndG : (["key", "times"] : List Str).Nodup := by decide +kernel
theorem zEc (T : TxP mg) (S : Src K mg "gathered" zsa ["terms"]) : Def P w K mg base 1 "gathered" ["terms"] (zhn K) := by
 refine S.def scGath (fun vs H Q E h => ?_) (fun f cdv A outer s H vs Q E hr h => ?_)
 ·obtain ⟨_, _, _, _, rfl, _⟩ := h; rfl
 ·obtain ⟨k, a, rs, ts, rfl, hq, ht, h64, bd, q⟩ := h;have rl : rs.length = ts.length := Paired.length ht;refine ⟨_, zD (zJ (i := 1) scGath.nd rfl (Or.inl rfl) zke)
   (zD (wG PassesOwn.never rfl (yM K k (pv 0)) (wC K 3 rfl (zW (zI (i := 2) scGath.nd rfl (Or.inl rfl)) (zW (zI (i := 3) scGath.nd rfl (Or.inl rfl)) (zW (zI (i := 4) scGath.nd rfl (Or.inl rfl)) wB))))
    (zG (zgu (zeg hr) (pv 1) (y8 (zA (pv 2) (zA (pv 3) zB))) (zQ xN (zkf (zeg hr) (pv 1) (y8 (zA (pv 2) (zA (pv 3) zB))) zF ⟨rfl, rfl, rfl, rfl⟩) (pv 4)) rfl)))
   (zG (zO (zY (yG K) rfl T.tuple yH (zA (zN kE (by rfl) T.sorted xT (zA (yT (N' := ["key", "times"]) (fr := [none, none]) (zS (by rfl)) rfl (zez (zvv PySem.F.plainAttrs_dict PySem.F.slot_dict_items PySem.F.type_dict_items zkk (pv 1)))
    (g := zmi K 2 (w4 (yB 0) (w4 (yB 1) zoz))) (fun _ _ _ _ => wC K 2 rfl (zW (zI (i := 0) ndG rfl (Or.inl rfl) (Or.inr rfl)) (zW (zI (i := 1) ndG rfl (Or.inl rfl) (Or.inr rfl)) wB)))
    (fun _ _ _ _ => y9 (yF zih (pv 1) zF (yQ _)))
    (fun _ _ _ _ => y8 (zA (yO (r := zkb K) (yI K) (pv 0) zF (fun _ _ => rfl)) (zA (yO (r := zkb K) (yI K) (pv 0) zF (fun _ _ => rfl)) (zA (pv 1) zB))))) zB)) zB))))), ?_⟩
  intro d hd;have s1 := Same.new (o := HO.dT []) hd;have hd1 : (upd H d (.dT [])) d = some (.dT []) := zC;generalize upd H d (.dT []) = H1 at s1 hd1 ⊢;refine ⟨_, rfl, a, rfl, ⟨rs, s1.seqK hq⟩, vP (k := k) (K := K) (a := a) (xs := rs) (fun i σ H' => (∃ u v r, σ = [some (.ref a), some (.ref d), u, v, r]) /\ Same H H' /\ ∃ kvs, H' d = some (.dT kvs) /\ TabIs (ts.take i) kvs)
   ⟨⟨_, _, _, rfl⟩, s1, [], hd1, TabIs.nil⟩ (fun i σ H' _ z => z.2.1.seqK hq) ?_ ?_⟩
  ·rintro i x σ H2 hx ⟨⟨u, v, r, rfl⟩, sm, kvs, hk, tab⟩;obtain ⟨t, e1, b, rfl, hb⟩ := Paired.at ht hx;refine ⟨b, _, rfl, sqT sm hb, rfl, _, _, rfl, _, _, rfl, _, _, rfl, rfl, ?_⟩;have kl : kvs.length < 100000 := by
    have := tab.len;rw [J8] at this;lia
   refine ⟨_, rfl, d, rfl, .inr ⟨_, .inl hk⟩, _, rfl, _, rfl, by show 2 <= sizeLine; decide, fun c hc => ?_⟩;have s3 := Same.new (o := HO.tup [.int t.1, .int t.2.1]) hc;have hc3 : (upd H2 c (.tup [.int t.1, .int t.2.1])) c = some (.tup ((kk (k3 t)).map kV)) := zC;have hk3 := s3 _ _ hk;have sm3 := sm.trans s3;generalize upd H2 c (.tup [.int t.1, .int t.2.1]) = H3 at s3 hc3 hk3 sm3 ⊢;refine ⟨_, DGet.t hk3 hc3, ?_⟩;rw [tab.at];refine ⟨_, rfl, _, _, rfl, rfl, _, rfl, _, rfl, _, rfl, by show 2 <= sizeLine; decide, fun c2 hc2 => ?_⟩;have s4 := Same.new (o := HO.tup [.int t.1, .int t.2.1]) hc2;have hc4 : (upd H3 c2 (.tup [.int t.1, .int t.2.1])) c2 = some (.tup ((kk (k3 t)).map kV)) := zC;have hk4 := s4 _ _ hk3;have sm4 := sm3.trans s4;generalize upd H3 c2 (.tup [.int t.1, .int t.2.1]) = H4 at s4 hc4 hk4 sm4 ⊢;refine ⟨d, _, rfl, DPut.t hk4 hc4 (zsl kl), ⟨_, _, _, rfl⟩, Same.put sm4 hd, _, zC, ?_⟩;rw [zM e1];exact tab.put t
  ·rintro σ H2 ⟨⟨u, v, r, rfl⟩, sm, kvs, hk, tab⟩;rw [rl, Q6] at tab;have kl : kvs.length < 100000 := Js tab.len h64;refine ⟨_, rfl, .inr (.inr (.inl ⟨rfl, .inr ⟨_, hk⟩⟩)), d, kvs, rfl, rfl, hk, fun vw hvw => ?_⟩;have s3 := Same.new (o := jV vw d) hvw;refine ⟨vw, d, kvs, rfl, zC, s3 _ _ hk, fun o => ?_⟩;have hf : (upd (upd H2 vw (jV vw d)) d (.frz o (.dT kvs))) d = some (.frz o (.dT kvs)) := zC;have sm3 : Same H (upd (upd H2 vw (jV vw d)) d (.frz o (.dT kvs))) := Same.put (sm.trans s3) hd;generalize upd (upd H2 vw (jV vw d)) d (.frz o (.dT kvs)) = H3 at hf sm3 ⊢;refine zpf (fun σ => ∃ u v, σ = [u, v]) (fun i ys H' => Same H3 H' /\ Paired (TermAt H') ys (sel (kvs.take i))) ⟨_, _, rfl⟩ ⟨Same.refl _, .nil⟩ (zsl kl) (fun i ys H' z => z.1 _ _ hf) ?_ ?_
   ·rintro i Tp b key vv ys σ H4 N ek hT hb ⟨u, v, rfl⟩ ⟨sm4, hy⟩ hN;obtain ⟨k2, e2⟩ := tab.val _ (Jq ek);injection e2 with e3 e4;subst e3 e4;have s5 := Same.new (o := HO.tup [.ref b, .int (coef ts k2)]) hT;have hT5 : (upd H4 Tp (.tup [.ref b, .int (coef ts k2)])) Tp = some (.tup [.ref b, .int (coef ts k2)]) := zC;have hb5 := zGr (s5 _ _ hb);have sm5 := sm4.trans s5;have hy5 := yD hy s5;generalize upd H4 Tp (.tup [.ref b, .int (coef ts k2)]) = H5 at s5 hT5 hb5 sm5 hy5 ⊢;refine ⟨Tp, _, rfl, SqT.of hT5, rfl, _, _, rfl, _, _, rfl, rfl, ?_⟩;dsimp only [yB, List.set];refine ⟨_, rfl, rfl, _, rfl, ?_⟩;have e5 := zjv ek;rw [qE] at e5;by_cases c : coef ts k2 = 0
    ·rw [Q2 (show V.int (coef ts k2) = V.int 0 by rw [c])];rw [if_pos c, Option.toList_none, Jw] at e5;refine wL (hN _ _ _ ⟨_, _, rfl⟩ ⟨sm5, ?_⟩ (by lia));rw [e5];exact hy5
    ·rw [Q8 (show ¬ V.int (coef ts k2) = V.int 0 from fun z => c (by injection z))];rw [if_neg c, Option.toList_some] at e5;have j0 : atI ([.int k2.1, .int k2.2] : List V) 0 = some (.int k2.1) := yC (j := 0) rfl;have j1 : atI ([.int k2.1, .int k2.2] : List V) 1 = some (.int k2.2) := yC (j := 1) rfl;refine jP ⟨_, rfl, b, _, _, _, rfl, rfl, SqT.of hb5, j0, _, rfl, b, _, _, _, rfl, rfl, SqT.of hb5, j1, _, rfl, by show 3 <= sizeLine; decide, fun c2 hc2 => ?_⟩;have s6 := Same.new (o := HO.tup [.int k2.1, .int k2.2, .int (coef ts k2)]) hc2;refine hN _ _ _ ⟨_, _, rfl⟩ ⟨sm5.trans s6, ?_⟩ (by simp);rw [e5];exact L2.Paired.snoc (yD hy5 s6) ⟨c2, rfl, zC⟩
   ·rintro ys H4 ⟨sm4, hy⟩ l hl;rw [Q6] at hy;have s5 := Same.new (o := HO.lst ys) hl;have hl5 : (upd H4 l (.lst ys)) l = some (.lst ys) := zC;have hy5 := yD hy s5;have sm5 := sm4.trans s5;generalize upd H4 l (.lst ys) = H5 at s5 hl5 hy5 sm5 ⊢;have yl : ys.length = (sel kvs).length := Paired.length hy;have sl := zgr tab;have ss := zpw tab bd;have py : Paired (vK H5) ys ((sel kvs).map l3) := by
     have : ∀ {ys : List V} {us : List T3}, Paired (TermAt H5) ys us -> Paired (vK H5) ys (us.map l3) := by
      intro ys us h
      induction h with
      | nil => exact .nil
      | cons r _ ih => exact .cons (let ⟨a, e1, e2⟩ := r; ⟨a, e1, e2⟩) ih
     exact this hy5
    refine ⟨l, ys, _, rfl, SqL.of hl5, by lia, py, fun ks hks => ?_, fun l2 rs' kss' p1 p2 p3 hl2 => ?_⟩
    ·obtain ⟨t, _, rfl⟩ := Ql.mp hks;intro z;cases z
    ·obtain ⟨L, rfl, pL, ll⟩ := zam tab p2 p3;have s6 := Same.new (o := HO.lst rs') hl2;refine ⟨l2, rs', rfl, .inl ⟨SqL.of zC, fun c hc => ?_⟩⟩;have s7 := Same.new (o := HO.tup rs') hc;have pt : Paired (TermAt H5) rs' L := by
      have : ∀ {rs : List V} {us : List T3}, Paired (vK H5) rs (us.map l3) -> Paired (TermAt H5) rs us := by
       intro rs us
       induction us generalizing rs with
       | nil => intro h; cases h; exact .nil
       | cons t us ih =>
        intro h;rw [Qm] at h;cases h with
        | cons r t => exact .cons (let ⟨a, e1, e2⟩ := r; ⟨a, e1, e2⟩) (ih t)
      exact this p1
     exact q _ L _ ((sm3.trans sm5).trans (s6.trans s7)) pL ll ⟨c, rs', rfl, zC, yD pt (s6.trans s7)⟩
end
theorem zcf : ∀ {U : List T3}, (U.map k3).Nodup -> ∀ t ∈ U, coef U (k3 t) = t.2.2
 | [], _, t, h => nomatch h
 | a :: U, nd, t, h => by
  rw [Qm, Jy] at nd;rw [zZ];rcases Qs.mp h with rfl | h
  ·rw [if_pos rfl, xZ fun u hu e => nd.1 (Ql.mpr ⟨u, hu, e⟩)];lia
  ·rw [if_neg (fun e => nd.1 (Ql.mpr ⟨t, h, e.symm⟩)), zcf nd.2 t h];lia
theorem zjf {L : List T3} (h : L.Pairwise jA) : (L.map k3).Nodup := by
 refine Jt.mpr (h.imp fun {a b} x e => ?_);obtain ⟨e1, e2⟩ := Prod.mk.inj (show (a.1, a.2.1) = (b.1, b.2.1) from e);unfold jA at x;lia
theorem PolyIs.coef {ts L : List T3} (h : PolyIs ts L) (k : Int × Int) : My.coef L k = My.coef ts k := by
 by_cases c : My.coef ts k = 0
 ·rw [c];refine xZ fun t ht e => ?_;obtain ⟨a, b⟩ := (h.mem t).mp ht;rw [e, c] at b;exact a b
 ·have hm : (k.1, k.2, My.coef ts k) ∈ L := (h.mem _).mpr ⟨c, rfl⟩;exact zcf (zjf h.up) _ hm
def sw (t : T3) : T3 := (t.2.1, t.1, t.2.2)
def swk (k : Int × Int) : Int × Int := (k.2, k.1)
theorem zzx (U : List T3) (k : Int × Int) : coef (U.map sw) k = coef U (swk k) := by
 induction U with
 | nil => rfl
 | cons t U ih =>
  rw [Qm, zZ, zZ, ih];have : (k3 (sw t) = k) ↔ (k3 t = swk k) := by
   obtain ⟨k1, k2⟩ := k;show ((t.2.1, t.1) = (k1, k2)) ↔ ((t.1, t.2.1) = (k2, k1));rw [Prod.mk.injEq, Prod.mk.injEq];exact And.comm
  by_cases c : k3 t = swk k
  ·rw [if_pos (this.mpr c), if_pos c]; rfl
  ·rw [if_neg (fun z => c (this.mp z)), if_neg c]
def qP (t u : T3) : T3 := (t.1 + u.1, t.2.1 + u.2.1, t.2.2 * u.2.2)
def xL (ts us : List T3) : List T3 := ts.flatMap fun t => us.map (qP t)
theorem zey (ts us : List T3) : (xL ts us).length = ts.length * us.length := by
 unfold xL
 induction ts with
 | nil => simp
 | cons t ts ih => rw [List.flatMap_cons, Q3, ih, Qj, Jh, Nat.add_mul, Nat.one_mul, Nat.add_comm]
theorem zad {H : Hp} {l : Addr} {ys zs : List V} {xs : List V} {ts : List T3} (h : Paired (TermAt H) xs ts) (hl : H l = some (.lst ys)) : Paired (TermAt (upd H l (.lst zs))) xs ts := L2.Paired.mapP h fun _ _ ⟨a, h1, h2⟩ => ⟨a, h1, by
 rw [zU (zee h2 hl (fun z => nomatch z))]
 exact h2⟩
theorem zcc {α β : Type} {F : α -> β -> Prop} {l₁ : List α} {l₂ : List β} {m₁ : List α} {m₂ : List β} (h : Paired F l₁ l₂) (h2 : Paired F m₁ m₂) : Paired F (l₁ ++ m₁) (l₂ ++ m₂) := by
 induction h with
 | nil => exact h2
 | cons r _ ih => exact .cons r ih
def zmy (K : W.Frag) : Sp := fun vs H Q _ => ∃ (v u : V) (ts us : List T3), vs = [v, u] /\ PolyK K H v ts /\ PolyK K H u us /\ ts.length * us.length < 100000 /\ us.length < 100000 /\ (∀ t ∈ ts, ∀ r ∈ us, IntMulOk t.2.2 r.2.2) /\ Bd (xL ts us) /\
 ∀ x L H', Same H H' -> PolyIs (xL ts us) L -> L.length <= (xL ts us).length -> PolyAt H' x L -> Q x H'
section
variable {P : Program} {w : World} {K : W.Frag} {mg : Str -> Option Value} {base : Heap}
theorem scProd : zL ["one", "other", "terms", "i", "j", "times"] ["one", "other"] (zE zrv) := ⟨rfl, rfl, rfl, by decide +kernel, rfl, by decide +kernel, by decide +kernel⟩
theorem zHr : (["term", "i", "j", "times"] : List Str).Nodup := by decide +kernel
theorem zDv (S : Src K mg "product_of" zrv ["one", "other"]) (DG : Def P w K mg base 1 "gathered" ["terms"] (zhn K)) : Def P w K mg base 2 "product_of" ["one", "other"] (zmy K) := by
 refine S.def scProd (fun vs H Q E h => ?_) (fun f cdv A outer s H vs Q E hr h => ?_)
 ·obtain ⟨_, _, _, _, rfl, _⟩ := h; rfl
 ·obtain ⟨v, u, ts, us, rfl, pv', pu', hl, hl2, hm, bd, q⟩ := h;have hr1 : Room 1 _ := hr.mono (by decide);obtain ⟨c, rs, rfl, hc, ht⟩ := pv'.ex;obtain ⟨d, rs2, rfl, hd, ht2⟩ := pu'.ex;have l1 := Paired.length ht;have l2 := Paired.length ht2;refine ⟨_, zD (zJ (i := 2) scProd.nd rfl (Or.inl rfl) (xM zB))
   (zD (wG PassesOwn.never rfl (yM K .t (pv 0)) (wC K 3 rfl (zW (zI (i := 3) scProd.nd rfl (Or.inr rfl)) (zW (zI (i := 4) scProd.nd rfl (Or.inr rfl)) (zW (zI (i := 5) scProd.nd rfl (Or.inr rfl)) wB))))
    (zG (wV (k5 PySem.F.plainAttrs_list PySem.F.slot_list_extend PySem.F.type_list_extend vW (pv 2) (zA (yT (N' := ["term", "i", "j", "times"]) (fr := [none, some 3, some 4, some 5]) (zS (by rfl)) rfl (yM K .t (pv 1))
     (fun _ _ _ _ => zI (i := 0) zHr rfl (Or.inl rfl) (Or.inr rfl)) (fun _ _ _ _ => xA)
     (fun _ _ _ _ => y8 (zA (zQ xN (pv 1) (yO (r := zkb K) (yI K) (pv 0) zF (fun _ _ => rfl))) (zA (zQ xN (pv 2) (yO (r := zkb K) (yI K) (pv 0) zF (fun _ _ => rfl))) (zA (zQ zol (pv 3) (yO (r := zkb K) (yI K) (pv 0) zF (fun _ _ => rfl))) zB))))) zB)))))
   (zG (zO (zH DG hr1 rfl (zA (pv 2) zB))))), ?_⟩
  refine ⟨by show 0 <= sizeLine; decide, fun l hlN => ?_⟩;have s1 := Same.new (o := HO.lst []) hlN;refine ⟨_, rfl, c, rfl, ⟨rs, sqT s1 hc⟩, vP (k := .t) (K := K) (a := c) (xs := rs) (fun i σ H' => (∃ a b e, σ = [some (.ref c), some (.ref d), some (.ref l), a, b, e]) /\ Same H H' /\ ∃ zs, H' l = some (.lst zs) /\ Paired (TermAt H') zs (xL (ts.take i) us))
   ⟨⟨_, _, _, rfl⟩, s1, [], zC, .nil⟩ (fun i σ H' _ z => sqT z.2.1 hc) ?_ ?_⟩
  ·rintro i x σ H2 hx ⟨⟨a, b, e, rfl⟩, sm, zs, hz, pz⟩;obtain ⟨t, et, b1, rfl, hb⟩ := Paired.at ht hx;have tin := Jq et;refine ⟨b1, _, rfl, sqT sm hb, rfl, _, _, rfl, _, _, rfl, _, _, rfl, rfl, ?_⟩;dsimp only [List.set];refine ⟨_, rfl, .inl ⟨rfl, _, SqL.of hz⟩, _, rfl, d, rfl, ⟨_, sqT sm hd⟩, ?_⟩;refine yX (k := .t) (a := d) (xs := rs2) (fun σ => ∃ v, σ = [v, some (.int t.1), some (.int t.2.1), some (.int t.2.2)]) (fun j ys H3 => Same H2 H3 /\ Paired (TermAt H3) ys ((us.take j).map (qP t))) ⟨_, rfl⟩ ⟨Same.refl _, .nil⟩ (zsl (by lia)) (fun j ys H3 _ z => sqT z.1 (sqT sm hd)) ?_ ?_
   ·rintro j x ys σ H3 N hx3 ⟨u3, rfl⟩ ⟨sm3, py⟩ hN;obtain ⟨r, er, b3, rfl, hb3⟩ := Paired.at ht2 hx3;have rin := Jq er;have hb3' := sqT sm3 (sqT sm hb3);have i0 : atI ([.int r.1, .int r.2.1, .int r.2.2] : List V) 0 = some (.int r.1) := yC (j := 0) rfl;have i1 : atI ([.int r.1, .int r.2.1, .int r.2.2] : List V) 1 = some (.int r.2.1) := yC (j := 1) rfl;have i2 : atI ([.int r.1, .int r.2.1, .int r.2.2] : List V) 2 = some (.int r.2.2) := yC (j := 2) rfl;dsimp only [yB, List.set];refine zbk ?_;refine ⟨_, rfl, _, rfl, b3, _, _, _, rfl, rfl, hb3', i0, _, _, rfl, rfl, _, rfl, _, rfl, b3, _, _, _, rfl, rfl, hb3', i1, _, _, rfl, rfl, _, rfl, _, rfl, b3, _, _, _, rfl, rfl, hb3', i2, _, _, rfl, rfl, hm t tin r rin, by show 3 <= sizeLine; decide, fun p4 hp4 => ?_⟩;refine hN _ _ _ ⟨_, rfl⟩ ⟨sm3.trans (Same.new hp4), ?_⟩ (by simp);rw [zM er, Qu];exact L2.Paired.snoc (yD py (Same.new hp4)) ⟨p4, rfl, zC⟩
   ·rintro ys H3 ⟨sm3, py⟩ p4 hp4;rw [l2, Q6] at py;have s4 := Same.new (o := HO.lst ys) hp4;have ex : xL (ts.take (i + 1)) us = xL (ts.take i) us ++ us.map (qP t) := by
     unfold xL;rw [zM et, List.flatMap_append];simp
    have ll : (xL (ts.take (i + 1)) us).length <= ts.length * us.length := by
     rw [zey];exact Nat.mul_le_mul_right _ (by rw [J8]; lia)
    rw [ex, Q3] at ll;have z1 := Paired.length pz;have z2 := Paired.length py;have hz4 := s4 _ _ (sm3 _ _ hz);refine ⟨l, p4, zs, ys, rfl, rfl, hz4, zC, J9 (zsl (by lia)), ?_⟩;refine ⟨⟨_, _, _, rfl⟩, My.Same.put ((sm.trans sm3).trans s4) hlN, zs ++ ys, zC, ?_⟩;rw [ex];exact zad (zcc (yD pz (sm3.trans s4)) (yD py s4)) hz4
  ·rintro σ H2 ⟨⟨a, b, e, rfl⟩, sm, zs, hz, pz⟩;rw [l1, Q6] at pz;refine ⟨_, rfl, .l, l, zs, xL ts us, rfl, SqL.of hz, zhi pz, by rw [zey]; exact hl, bd, fun x L H3 s3 pi pl pa => ?_⟩;exact q x L H3 (sm.trans s3) pi pl pa
end
def Eqv (ts us : List T3) : Prop := ∀ k, coef ts k = coef us k
theorem Eqv.refl (ts : List T3) : Eqv ts ts := fun _ => rfl
theorem PolyIs.eqv {ts L : List T3} (h : PolyIs ts L) : Eqv L ts := fun k => h.coef k
theorem PolyIs.of_eqv {ts us L : List T3} (h : PolyIs ts L) (e : Eqv ts us) : PolyIs us L := ⟨h.up, fun t => by rw [h.mem t, e]⟩
def lin (ts : List T3) (g : Int × Int -> Int) : Int := (ts.map fun t => t.2.2 * g (k3 t)).sum
theorem gB (t : T3) (ts : List T3) (g : Int × Int -> Int) : lin (t :: ts) g = t.2.2 * g (k3 t) + lin ts g := rfl
theorem znn (f : Int × Int -> Int) (a : Int × Int) (c : Int) : ∀ K : List (Int × Int), K.Nodup -> (K.map fun k => (if a = k then c else 0) * f k).sum = if a ∈ K then c * f a else 0
 | [], _ => rfl
 | k :: K, nd => by
  obtain ⟨h1, h2⟩ := Jy.mp nd;rw [Qm, Ww, znn f a c K h2];by_cases e : a = k
  ·subst e;rw [if_pos rfl, if_neg h1, if_pos Qk];lia
  ·rw [if_neg e, Int.zero_mul, Int.zero_add];by_cases m : a ∈ K
   ·rw [if_pos m, if_pos (Qy _ m)]
   ·rw [if_neg m, if_neg (fun z => (Qs.mp z).elim e m)]
theorem zno (f g : Int × Int -> Int) : ∀ K : List (Int × Int), (K.map fun k => f k + g k).sum = (K.map f).sum + (K.map g).sum
 | [] => rfl
 | k :: K => by
  rw [Qm, Ww, zno f g K, Qm, Ww, Qm, Ww];lia
theorem zdc (g : Int × Int -> Int) (K : List (Int × Int)) (nd : K.Nodup) : ∀ ts : List T3, (∀ t ∈ ts, k3 t ∈ K) -> lin ts g = (K.map fun k => coef ts k * g k).sum
 | [], _ => by
  have : (K.map fun k => coef [] k * g k) = K.map fun _ => (0 : Int) := Jm fun k _ => by show coef [] k * g k = 0; rw [show coef [] k = 0 from rfl, Int.zero_mul]
  rw [this];have : ∀ K : List (Int × Int), (K.map fun _ => (0 : Int)).sum = 0 := fun K => by induction K with
   | nil => rfl
   | cons _ _ ih => rw [Qm, Ww, ih]; rfl
  rw [this];rfl
 | t :: ts, h => by
  have ih := zdc g K nd ts fun u hu => h u (Qy _ hu);have e : (K.map fun k => coef (t :: ts) k * g k) = K.map fun k => (if k3 t = k then t.2.2 else 0) * g k + coef ts k * g k := Jm fun k _ => by rw [zZ, Int.add_mul]
  rw [gB, ih, e, zno (fun k => (if k3 t = k then t.2.2 else 0) * g k), znn g (k3 t) t.2.2 K nd, if_pos (h t Qk)]
def zpc : List (Int × Int) -> List (Int × Int)
 | [] => []
 | a :: l => if a ∈ l then zpc l else a :: zpc l
theorem ddup_mem : ∀ {l : List (Int × Int)} {a : Int × Int}, a ∈ zpc l ↔ a ∈ l
 | [], _ => Iff.rfl
 | b :: l, a => by
  unfold zpc;by_cases h : b ∈ l
  ·rw [if_pos h, ddup_mem, Qs];exact ⟨.inr, fun z => z.elim (fun e => e ▸ h) id⟩
  ·rw [if_neg h, Qs, Qs, ddup_mem]
theorem zck : ∀ l : List (Int × Int), (zpc l).Nodup
 | [] => .nil
 | b :: l => by
  unfold zpc;by_cases h : b ∈ l
  ·rw [if_pos h]; exact zck l
  ·rw [if_neg h]; exact Jy.mpr ⟨fun z => h (ddup_mem.mp z), zck l⟩
theorem zoq {ts us : List T3} (h : Eqv ts us) (g : Int × Int -> Int) : lin ts g = lin us g := by
 have a := zdc g (zpc ((ts ++ us).map k3)) (zck _) ts fun t ht => ddup_mem.mpr (List.mem_map_of_mem (Qn _ ht));have b := zdc g (zpc ((ts ++ us).map k3)) (zck _) us fun t ht => ddup_mem.mpr (List.mem_map_of_mem (Qp _ ht));rw [a, b];congr 1;exact Jm fun k _ => by rw [h k]
def gU (k : Int × Int) (t : Int × Int) : Int × Int := (k.1 - t.1, k.2 - t.2)
theorem zfj (t : T3) (k : Int × Int) : ∀ us : List T3, coef (us.map (qP t)) k = t.2.2 * coef us (gU k (k3 t))
 | [] => by rw [show coef [] (gU k (k3 t)) = 0 from rfl, Int.mul_zero]; rfl
 | u :: us => by
  rw [Qm, zZ, zZ, zfj t k us, Int.mul_add];congr 1;have e : k3 (qP t u) = k ↔ k3 u = gU k (k3 t) := by
   unfold k3 qP gU;rw [Prod.ext_iff, Prod.ext_iff];dsimp only;lia
  by_cases c : k3 (qP t u) = k
  ·rw [if_pos c, if_pos (e.mp c)]; rfl
  ·rw [if_neg c, if_neg (fun z => c (e.mpr z)), Int.mul_zero]
theorem jC (us : List T3) (k : Int × Int) : ∀ ts : List T3, coef (xL ts us) k = lin ts fun a => coef us (gU k a)
 | [] => rfl
 | t :: ts => by
  show coef (us.map (qP t) ++ xL ts us) k = _;rw [gC, zfj, jC us k ts, gB]
theorem zkc {ts ts' us us' : List T3} (h : Eqv ts ts') (h2 : Eqv us us') : Eqv (xL ts us) (xL ts' us') := fun k => by
 rw [jC, jC, zoq h];congr 1
 funext a
 exact h2 _
def pwL (us : List T3) : Nat -> List T3
 | 0 => [(0, 0, 1)]
 | k + 1 => xL (pwL us k) us
theorem zyq (a b : List T3) (g : Int × Int -> Int) : lin (a ++ b) g = lin a g + lin b g := by
 unfold lin;rw [Qu, List.sum_append]
def nrm (ts : List T3) : Nat := (ts.map fun t => t.2.2.natAbs).sum
theorem v4 (t : T3) (ts : List T3) : nrm (t :: ts) = t.2.2.natAbs + nrm ts := rfl
theorem zyl (a b : List T3) : nrm (a ++ b) = nrm a + nrm b := by unfold nrm; rw [Qu, List.sum_append]
theorem zcd {ts : List T3} {t : T3} (h : t ∈ ts) : t.2.2.natAbs <= nrm ts := by
 induction ts with
 | nil => exact nomatch h
 | cons u ts ih =>
  rw [v4];rcases Qs.mp h with z | z
  ·rw [z]; lia
  ·have := ih z; lia
theorem zkh (t : T3) : ∀ us : List T3, nrm (us.map (qP t)) = t.2.2.natAbs * nrm us
 | [] => rfl
 | u :: us => by
  rw [Qm, v4, v4, zkh t us, Nat.mul_add];congr 1;exact Int.natAbs_mul _ _
theorem zda (us : List T3) : ∀ ts : List T3, nrm (xL ts us) = nrm ts * nrm us
 | [] => by rw [show nrm [] = 0 from rfl, Nat.zero_mul]; rfl
 | t :: ts => by
  show nrm (us.map (qP t) ++ xL ts us) = _;rw [zyl, zkh, zda us ts, v4, Nat.add_mul]
theorem zBs {K : List (Int × Int)} {f g : Int × Int -> Nat} (h : ∀ k, f k <= g k) : (K.map f).sum <= (K.map g).sum := by
 induction K with
 | nil => exact Qw _
 | cons k K ih => rw [Qm, Ww, Qm, Ww]; have := h k; lia
theorem zjj (f g : Int × Int -> Nat) : ∀ K : List (Int × Int), (K.map fun k => f k + g k).sum = (K.map f).sum + (K.map g).sum
 | [] => rfl
 | k :: K => by
  rw [Qm, Ww, zjj f g K, Qm, Ww, Qm, Ww];lia
theorem zji (a : Int × Int) (c : Nat) : ∀ K : List (Int × Int), K.Nodup -> (K.map fun k => if a = k then c else 0).sum <= c /\ (a ∉ K -> (K.map fun k => if a = k then c else 0).sum = 0)
 | [], _ => ⟨Jj _, fun _ => rfl⟩
 | k :: K, nd => by
  obtain ⟨h1, h2⟩ := Jy.mp nd;obtain ⟨i1, i2⟩ := zji a c K h2;rw [Qm, Ww];by_cases e : a = k
  ·rw [if_pos e, i2 (by rw [e]; exact h1)];exact ⟨Qw _, fun z => absurd (by rw [e]; exact Qk) z⟩
  ·rw [if_neg e, Nat.zero_add];exact ⟨i1, fun z => i2 fun y => z (Qy _ y)⟩
theorem zkr (K : List (Int × Int)) (nd : K.Nodup) : ∀ ts : List T3, (K.map fun k => (coef ts k).natAbs).sum <= nrm ts
 | [] => by
  have : (K.map fun k => (coef [] k).natAbs) = K.map fun _ => 0 := Jm fun k _ => rfl;rw [this];have : ∀ K : List (Int × Int), (K.map fun _ => 0).sum = 0 := fun K => by induction K with
   | nil => rfl
   | cons _ _ ih => rw [Qm, Ww, ih]
  rw [this];exact Jj _
 | t :: ts => by
  have ih := zkr K nd ts;have a := zBs (K := K) (f := fun k => (coef (t :: ts) k).natAbs) (g := fun k => (if k3 t = k then t.2.2.natAbs else 0) + (coef ts k).natAbs) fun k => by
   rw [zZ];split <;> lia
  rw [zjj (fun k => if k3 t = k then t.2.2.natAbs else 0)] at a;have b := (zji (k3 t) t.2.2.natAbs K nd).1;rw [v4];exact Jx a (Nat.add_le_add b ih)
theorem PolyIs.nrm {ts L : List T3} (h : PolyIs ts L) : My.nrm L <= My.nrm ts := by
 have a := zkr (L.map k3) (zjf h.up) ts;rw [Wr] at a;have e : (L.map ((fun k => (My.coef ts k).natAbs) ∘ k3)) = L.map fun t => t.2.2.natAbs := Jm fun t ht => by
  show (My.coef ts (k3 t)).natAbs = _;rw [<- ((h.mem t).mp ht).2]
 rw [e] at a;exact a
def Deg (d : Int) (ts : List T3) : Prop := ∀ t ∈ ts, (0 <= t.1 /\ t.1 <= d) /\ 0 <= t.2.1 /\ t.2.1 <= d
theorem Deg.prod {d e : Int} {ts us : List T3} (h : Deg d ts) (h2 : Deg e us) : Deg (d + e) (xL ts us) := by
 intro t ht;obtain ⟨a, ha, hab⟩ := List.mem_flatMap.mp ht;obtain ⟨b, hb, rfl⟩ := Ql.mp hab;have x := h a ha;have y := h2 b hb;unfold qP;dsimp only;lia
theorem PolyIs.deg {d : Int} {ts L : List T3} (h : PolyIs ts L) (hd : Deg d ts) : Deg d L := by
 intro t ht;obtain ⟨h1, h2⟩ := (h.mem t).mp ht;obtain ⟨u, hu, e⟩ : ∃ u ∈ ts, k3 u = k3 t := by
  refine Classical.byContradiction fun z => h1 ?_;rw [h2];exact xZ fun u hu e => z ⟨u, hu, e⟩
 have := hd u hu;have e1 : u.1 = t.1 := congrArg (fun k : Int × Int => k.1) e;have e2 : u.2.1 = t.2.1 := congrArg (fun k : Int × Int => k.2) e;rw [e1, e2] at this;exact this
theorem zyn {l : List Nat} {M : Nat} (nd : l.Nodup) (h : ∀ i ∈ l, i < M) : l.length <= M := by
 have p : l.Perm ((List.range M).filter fun i => decide (i ∈ l)) := (Wx nd (List.Pairwise.filter _ List.nodup_range)).mpr fun i => by
  rw [Qg, Q0, Qc];exact ⟨fun z => ⟨h i z, z⟩, fun z => z.2⟩
 have a := p.length_eq;have b := Jr (fun i => decide (i ∈ l)) (List.range M);rw [Jk] at b;lia
theorem gZ {d : Nat} {L : List T3} (up : L.Pairwise jA) (h : Deg d L) : L.length <= (d + 1) * (d + 1) := by
 have nd : (L.map fun t => t.1.toNat * (d + 1) + t.2.1.toNat).Nodup := by
  rw [List.Nodup, Jt];refine List.Pairwise.imp_of_mem ?_ up;intro a b ha hb k e;have x := h a ha;have y := h b hb;have a2 : a.2.1.toNat < d + 1 := by lia
  have b2 : b.2.1.toNat < d + 1 := by lia
  have e1 : a.1.toNat = b.1.toNat := by
   have this : (a.1.toNat * (d + 1) + a.2.1.toNat) / (d + 1) = (b.1.toNat * (d + 1) + b.2.1.toNat) / (d + 1) := by rw [e]
   rw [Nat.mul_comm, Nat.mul_add_div (by lia), Nat.div_eq_of_lt a2, Nat.mul_comm b.1.toNat, Nat.mul_add_div (by lia), Nat.div_eq_of_lt b2] at this;lia
  rw [e1] at e;unfold jA at k;lia
 have := zyn nd (M := (d + 1) * (d + 1)) fun i hi => by
  obtain ⟨t, ht, rfl⟩ := Ql.mp hi;have x := h t ht;have a1 : t.1.toNat <= d := by lia
  have a2 : t.2.1.toNat < d + 1 := by lia
  have := Nat.mul_le_mul_right (d + 1) a1;rw [Nat.add_mul, Nat.one_mul];lia
 rw [Qj] at this;exact this
open Builtin.Int (intBits)
theorem ztm : PolyIs [(0, 0, 1)] [(0, 0, 1)] := by
 refine ⟨List.pairwise_singleton _ _, fun t => ?_⟩;rw [Qx];constructor
 ·rintro rfl;exact ⟨by decide, by decide⟩
 ·rintro ⟨a, b⟩;rw [zZ] at b;by_cases c : k3 ((0, 0, 1) : T3) = k3 t
  ·rw [if_pos c] at b;obtain ⟨e1, e2⟩ := Prod.mk.inj (show ((0 : Int), (0 : Int)) = (t.1, t.2.1) from c);exact Prod.ext e1.symm (Prod.ext e2.symm (by rw [b]; rfl))
  ·rw [if_neg c] at b;exact absurd b a
theorem zin {d : Nat} {ts : List T3} (h : Deg d ts) : ∀ k : Nat, Deg ((d * k : Nat) : Int) (pwL ts k)
 | 0 => by
  intro t ht;rw [Qx.mp ht];simp
 | k + 1 => by
  have a := (zin h k).prod h;have e : (((d * k : Nat) : Int) + (d : Int)) = ((d * (k + 1) : Nat) : Int) := by rw [Nat.mul_succ]; lia
  rw [e] at a;exact a
theorem zii (ts : List T3) : ∀ k : Nat, nrm (pwL ts k) = nrm ts ^ k
 | 0 => rfl
 | k + 1 => by
  show nrm (xL (pwL ts k) ts) = _;rw [zda, zii ts k, Nat.pow_succ]
theorem zCn {n j N a : Nat} (h : n <= 2 ^ a) (hj : a * j <= N) : n ^ j < 2 ^ (N + 1) := by
 have h1 : n ^ j <= 2 ^ (a * j) := by
  rw [Nat.pow_mul];exact Nat.pow_le_pow_left h j
 have h2 : 2 ^ (a * j) <= 2 ^ N := Nat.pow_le_pow_right (by decide) hj;have h3 : 2 ^ N < 2 ^ (N + 1) := Nat.pow_lt_pow_right (by decide) (by lia);lia
theorem zgt {ts L : List T3} {j : Nat} (hn : nrm ts <= 2 ^ 400) (hj : j <= 20) (h : PolyIs (pwL ts j) L) : ∀ t ∈ L, intBits t.2.2 <= 8001 := fun t ht => intBits_le_iff.mpr (by
 have a := zcd ht;have b := h.nrm;rw [zii] at b;have c := zCn (N := 8000) hn (show 400 * j <= 8000 by lia);lia)
def TD (e : Int) (ts : List T3) : Prop := ∀ t ∈ ts, 0 <= t.1 /\ 0 <= t.2.1 /\ t.1 + t.2.1 <= e
theorem TD.prod {d e : Int} {ts us : List T3} (h : TD d ts) (h2 : TD e us) : TD (d + e) (xL ts us) := by
 intro t ht;obtain ⟨a, ha, hab⟩ := List.mem_flatMap.mp ht;obtain ⟨b, hb, rfl⟩ := Ql.mp hab;have x := h a ha;have y := h2 b hb;unfold qP;dsimp only;lia
theorem PolyIs.td {d : Int} {ts L : List T3} (h : PolyIs ts L) (hd : TD d ts) : TD d L := by
 intro t ht;obtain ⟨h1, h2⟩ := (h.mem t).mp ht;obtain ⟨u, hu, e⟩ : ∃ u ∈ ts, k3 u = k3 t := by
  refine Classical.byContradiction fun z => h1 ?_;rw [h2];exact xZ fun u hu e => z ⟨u, hu, e⟩
 have := hd u hu;have e1 : u.1 = t.1 := congrArg (fun k : Int × Int => k.1) e;have e2 : u.2.1 = t.2.1 := congrArg (fun k : Int × Int => k.2) e;rw [e1, e2] at this;exact this
theorem zrp {d : Nat} {ts : List T3} (h : TD d ts) : ∀ k : Nat, TD ((d * k : Nat) : Int) (pwL ts k)
 | 0 => by
  intro t ht;rw [Qx.mp ht];simp
 | k + 1 => by
  have a := (zrp h k).prod h;have e : (((d * k : Nat) : Int) + (d : Int)) = ((d * (k + 1) : Nat) : Int) := by rw [Nat.mul_succ]; lia
  rw [e] at a;exact a
theorem zxg {e : Int} {ts : List T3} (h : TD e ts) (h9 : e <= 9) : Bd ts := fun t ht => by
 obtain ⟨a, c, d⟩ := h t ht;exact ⟨a, c, by lia⟩
def zAj (K : W.Frag) : Sp := fun vs H Q _ => ∃ (v : V) (ts : List T3) (k : Int) (d : Nat), vs = [v, .int k] /\ PolyK K H v ts /\ 0 <= k /\ k <= 20 /\ Deg d ts /\ (∀ j : Nat, j < k.toNat -> (d * j + 1) * (d * j + 1) * ts.length < 100000) /\ ts.length < 100000 /\ TD (d : Int) ts /\ (∀ j : Nat, j < k.toNat -> d * j + d <= 9) /\ nrm ts <= 2 ^ 400 /\
 ∀ x L H', Same H H' -> PolyIs (pwL ts k.toNat) L -> PolyK K H' x L -> Q x H'
section
variable {P : Program} {w : World} {K : W.Frag} {mg : Str -> Option Value} {base : Heap}
theorem scPow : zL ["poly", "k", "power", "step"] ["poly", "k"] (zE zhr) := ⟨rfl, rfl, rfl, by decide +kernel, rfl, by decide +kernel, by decide +kernel⟩
theorem zzi (T : TxP mg) (S : Src K mg "to_power" zhr ["poly", "k"]) {oa : Addr} (ho : mg "ONE" = some (.ref oa)) (hk : ∀ H, PolyK K H (.ref oa) [(0, 0, 1)]) (DP : Def P w K mg base 2 "product_of" ["one", "other"] (zmy K)) : Def P w K mg base 3 "to_power" ["poly", "k"] (zAj K) := by
 refine S.def scPow (fun vs H Q E h => ?_) (fun f cdv A outer s H vs Q E hr h => ?_)
 ·obtain ⟨_, _, _, _, rfl, _⟩ := h; rfl
 ·obtain ⟨v, ts, k, d, rfl, pk, k0, k2, hd, hlen, hts, htd, h6, hn, q⟩ := h;have hr2 : Room 2 _ := hr.mono (by decide);refine ⟨_, zD (zJ (i := 2) scPow.nd rfl (Or.inl rfl) (zoi (v := .ref oa) rfl ho rfl))
   (zD (wG PassesOwn.never rfl (xY rfl T.range (zA (pv 1) zB)) (zI (i := 3) scPow.nd rfl (Or.inl rfl))
    (zG (zJ (i := 2) scPow.nd rfl (Or.inl rfl) (zH DP hr2 rfl (zA (pv 2) (zA (pv 0) zB))))))
   (zG (zO (pv 2)))), ?_⟩
  refine ⟨_, rfl, k, rfl, by lia, by lia, ?_⟩;refine zah (lo := 0) (n := k.toNat) (fun j σ H' => (∃ x u L, σ = [some v, some (.int k), some x, u] /\ PolyIs (pwL ts j) L /\ PolyK K H' x L) /\ Same H H') ⟨⟨_, none, _, rfl, ztm, hk _⟩, Same.refl _⟩ ?_ ?_
  ·rintro j σ H' hj ⟨⟨x, u, L, rfl, pi, px⟩, sm⟩;dsimp only [yB, List.set];refine ⟨_, rfl, _, rfl, x, v, L, ts, rfl, px, pk.same sm, ?_, hts, fun t ht r hr' => ?_, zxg ((pi.td (zrp htd j)).prod htd) (by have := h6 j hj; lia), fun x2 L2 H2 s2 pi2 _ pa2 => ⟨⟨x2, _, L2, rfl, ?_, pa2.K⟩, sm.trans s2⟩⟩
   ·have a := gZ pi.up (pi.deg (zin hd j));exact Js (Nat.mul_le_mul_right _ a) (hlen j hj)
   ·have a := zcd hr';have b : 2 ^ 400 < 2 ^ 401 := Nat.pow_lt_pow_right (by decide) (by lia);have c : intBits r.2.2 <= 401 := intBits_le_iff.mpr (by lia);exact IntMulOk.of_le (zgt hn (show j <= 20 by lia) pi t ht) c (by decide)
   ·exact pi2.of_eqv (zkc pi.eqv (Eqv.refl _))
  ·rintro σ H' ⟨⟨x, u, L, rfl, pi, px⟩, sm⟩;exact ⟨_, rfl, q x L H' sm pi px⟩
end
def tmS (n : Int) (ps : List (Int × Int)) (p : List Int) : T3 := ((p.length : Int), rkP n ps p, 1)
def jW (n : Int) (ps : List (Int × Int)) : List T3 := (vJ ps).map (tmS n ps)
def zGg (K : W.Frag) : Sp := fun vs H Q _ => ∃ (wv : V) (n : Int) (ps : List (Int × Int)), vs = [wv] /\ WebAt H wv n ps /\ xR n ps /\
 ∀ g rs L H', Same H H' -> H g = none -> H' g = some (.lst rs) -> Paired (TermAt H') rs L -> PolyIs (jW n ps) L -> L.length <= 300 -> Q (.ref g) H'
def KFrom (ts : List T3) (kvs : qI) : Prop := ∀ p ∈ kvs, ∃ t ∈ ts, p.1 = kk (k3 t)
theorem KFrom.put {ts : List T3} {kvs : qI} (h : KFrom ts kvs) (t : T3) (v : V) : KFrom (ts ++ [t]) (qO kvs (kk (k3 t)) v) := by
 intro p hp;unfold qO at hp;split at hp
 ·obtain ⟨q, hq, rfl⟩ := Ql.mp hp;obtain ⟨u, hu, e⟩ := h q hq;refine ⟨u, Qn _ hu, ?_⟩;rw [<- e];split <;> rfl
 ·rcases Qr.mp hp with z | z
  ·obtain ⟨u, hu, e⟩ := h p z;exact ⟨u, Qn _ hu, e⟩
  ·rw [Qx.mp z];exact ⟨t, Qp _ (Qx.mpr rfl), rfl⟩
theorem zlf : ∀ {ts : List T3} {k : Int × Int}, (∀ t ∈ ts, t.2.2 = 1) -> 0 <= coef ts k /\ ((∃ t ∈ ts, k3 t = k) -> 0 < coef ts k)
 | [], k, _ => ⟨Int.le_refl _, fun ⟨t, ht, _⟩ => nomatch ht⟩
 | t :: ts, k, h => by
  obtain ⟨a, b⟩ := zlf (ts := ts) (k := k) fun u hu => h u (Qy _ hu);have e := h t Qk;rw [zZ];by_cases c : k3 t = k
  ·rw [if_pos c, e];exact ⟨by lia, fun _ => by lia⟩
  ·rw [if_neg c];refine ⟨by lia, fun ⟨u, hu, eu⟩ => ?_⟩;rcases Qs.mp hu with z | z
   ·rw [z] at eu; exact absurd eu c
   ·have := b ⟨u, z, eu⟩;lia
theorem KFrom.ne {ts : List T3} {kvs : qI} (h : KFrom ts kvs) (one : ∀ t ∈ ts, t.2.2 = 1) {k : Int × Int} {v : V} (hp : (kk k, v) ∈ kvs) : coef ts k ≠ 0 := by
 obtain ⟨t, ht, e⟩ := h _ hp;have := (zlf (k := k) one).2 ⟨t, ht, (zng e).symm⟩;lia
theorem zxk (n : Int) (ps : List (Int × Int)) : ∀ t ∈ jW n ps, t.2.2 = 1 := fun t ht => by
 obtain ⟨p, _, rfl⟩ := Ql.mp ht;rfl
theorem zBm {n : Int} {ps : List (Int × Int)} (ok : xR n ps) : BdS (jW n ps) := fun u hu => by
 obtain ⟨A, hA, rfl⟩ := Ql.mp hu;obtain ⟨⟨n1, n9⟩, hb, h8⟩ := id ok;have o := wT n1 n9 hb;have kA := zab h8 hA;obtain ⟨_, up⟩ := (xK h8).mp hA;have lA : (A.length : Int) <= ps.length := kJ (by lia) (up.imp fun h => by lia) kA;have r1 := o.le kA;have r2 := o.gain kA (fun _ z => nomatch z : Ks ps.length [])
 rw [Wf, o.nil] at r2;exact ⟨by show 0 <= rkP n ps A; lia, by show rkP n ps A <= (A.length : Int); lia, by show (A.length : Int) <= 8; lia⟩
section
variable {P : Program} {w : World} {K : W.Frag} {mg : Str -> Option Value} {base : Heap}
theorem scST : zL ["web", "many_of", "pick", "key"] ["web"] (zE sST) := ⟨rfl, rfl, rfl, by decide +kernel, rfl, by decide +kernel, by decide +kernel⟩
theorem zGo : (["key", "many"] : List Str).Nodup := by decide +kernel
theorem zeb : bootBuiltins "sorted" = some (.builtin "sorted") := by first | rfl | decide +kernel
theorem zIe (T : Txt K mg) (hsor : mg "sorted" = none) (S : Src K mg "size_table" sST ["web"]) (DA : Def P w K mg base 2 "all_picks" ["web"] (zwu K)) (DR : Def P w K mg base 2 "rank_of" ["web", "pick"] (zdl K)) : Def P w K mg base 3 "size_table" ["web"] (zGg K) := by
 refine S.def scST (fun vs H Q E h => ?_) (fun f cdv A outer s H vs Q E hr h => ?_)
 ·obtain ⟨_, _, _, rfl, _⟩ := h; rfl
 ·obtain ⟨wv, n, ps, rfl, W, ok, q⟩ := h;obtain ⟨⟨n1, n9⟩, hb, h8⟩ := id ok;have hr2 : Room 2 _ := hr.mono (by decide);refine ⟨_, zD (zJ (i := 1) scST.nd rfl (Or.inl rfl) zke)
   (zD (wG PassesOwn.never rfl (yM K .l (zH DA hr2 rfl (zA (pv 0) zB))) (zI (i := 2) scST.nd rfl (Or.inl rfl))
    (zD (zJ (i := 3) scST.nd rfl (Or.inl rfl) (y8 (zA (zN (yL K) (by rfl) T.len PySem.boot_len (zA (pv 2) zB)) (zA (zH DR hr2 rfl (zA (pv 0) (zA (pv 2) zB))) zB))))
    (zG (zgu (zeg hr) (pv 1) (pv 3) (zQ xN (zkf (zeg hr) (pv 1) (pv 3) zF ⟨rfl, rfl, rfl, rfl⟩) zF) rfl))))
   (zG (zO (zN kE (by rfl) hsor zeb (zA (yT (N' := ["key", "many"]) (fr := [none, none]) (zS (by rfl)) rfl (zez (zvv PySem.F.plainAttrs_dict PySem.F.slot_dict_items PySem.F.type_dict_items zkk (pv 1)))
    (g := zmi K 2 (w4 (yB 0) (w4 (yB 1) zoz))) (fun _ _ _ _ => wC K 2 rfl (zW (zI (i := 0) zGo rfl (Or.inl rfl) (Or.inr rfl)) (zW (zI (i := 1) zGo rfl (Or.inl rfl) (Or.inr rfl)) wB)))
    (fun _ _ _ _ => xA)
    (fun _ _ _ _ => y8 (zA (yO (r := zkb K) (yI K) (pv 0) zF (fun _ _ => rfl)) (zA (yO (r := zkb K) (yI K) (pv 0) zF (fun _ _ => rfl)) (zA (pv 1) zB))))) zB))))), ?_⟩
  intro d hd;have s1 := Same.new (o := HO.dT []) hd;have hd1 : (upd H d (.dT [])) d = some (.dT []) := zC;generalize upd H d (.dT []) = H1 at s1 hd1 ⊢;refine ⟨_, rfl, wv, n, ps, rfl, W.same s1, h8, fun g ys H2 s2 hgN hg hy => ?_⟩;have hy : Paired (TupAt H2) ys (vJ ps) := hy;have s12 := s1.trans s2;have yl : ys.length = (vJ ps).length := Paired.length hy;have al := gG h8;have tl : (jW n ps).length = (vJ ps).length := Qj ..;refine ⟨g, rfl, ⟨_, SqL.of hg⟩, vP (k := .l) (K := K) (a := g) (xs := ys) (fun i σ H' => (∃ u v, σ = [some wv, some (.ref d), u, v]) /\ Same H H' /\ H' g = some (.lst ys) /\ Paired (TupAt H') ys (vJ ps) /\ ∃ kvs, H' d = some (.dT kvs) /\ TabIs ((jW n ps).take i) kvs /\ KFrom ((jW n ps).take i) kvs)
   ⟨⟨_, _, rfl⟩, s12, hg, hy, [], s2 _ _ hd1, TabIs.nil, fun _ z => nomatch z⟩ (fun i σ H' _ z => SqL.of z.2.2.1) ?_ ?_⟩
  ·rintro i x σ H3 hx ⟨⟨u, v, rfl⟩, sm, hg3, hy3, kvs, hk, tab, kf⟩;obtain ⟨p, ep, c, rfl, hc⟩ := Paired.at hy3 hx;have pin := Jq ep;have et : (jW n ps)[i]? = some (tmS n ps p) := by unfold jW; rw [Jz, ep]; rfl
   dsimp only [yB, List.set];refine ⟨_, rfl, c, _, rfl, .inr (SqT.of hc), _, rfl, _, rfl, wv, c, n, ps, p, rfl, W.same sm, n1, n9, hb, SqT.of hc, zab h8 pin, fun H4 s4 => ⟨by show 2 <= sizeLine; decide, fun b hb4 => ?_⟩⟩;rw [Qj];have s5 := s4.trans (Same.new (o := HO.tup [.int (p.length : Int), .int (rkP n ps p)]) hb4);have hb5 : (upd H4 b (.tup [.int (p.length : Int), .int (rkP n ps p)])) b = some (.tup ((kk (k3 (tmS n ps p))).map kV)) := zC;have hk5 := s5 _ _ hk;have hg5 := s5 _ _ hg3;have hy5 := yR hy3 s5;have sm5 := sm.trans s5;have ex : upd H4 b (.tup [.int (p.length : Int), .int (n - (xI (hdF ps (ups n) p) : Int))]) = upd H4 b (.tup [.int (p.length : Int), .int (rkP n ps p)]) := rfl;rw [ex];generalize upd H4 b (.tup [.int (p.length : Int), .int (rkP n ps p)]) = H5 at hb5 hk5 hg5 hy5 sm5 ⊢;have kl : kvs.length < 100000 := by
    have := tab.len;rw [J8] at this;lia
   refine ⟨_, rfl, d, rfl, .inr ⟨_, .inl hk5⟩, _, rfl, ?_⟩;refine ⟨_, DGet.t hk5 hb5, ?_⟩;rw [tab.at];refine ⟨_, _, rfl, rfl, _, rfl, _, rfl, ?_⟩;refine ⟨d, _, rfl, DPut.t hk5 hb5 (Jv kl (by decide)), ⟨_, _, rfl⟩, My.Same.put sm5 hd, ?_, ?_, _, zC, ?_, ?_⟩
   ·rw [zU (zee hg5 hk5 (fun z => nomatch z))]; exact hg5
   ·exact L2.Paired.mapP hy5 fun _ _ ⟨a, h1, h2⟩ => ⟨a, h1, by rw [zU (zee h2 hk5 (fun z => nomatch z))]; exact h2⟩
   ·rw [zM et];exact tab.put (tmS n ps p)
   ·rw [zM et];exact kf.put (tmS n ps p) _
  ·rintro σ H3 ⟨⟨u, v, rfl⟩, sm, _, _, kvs, hk, tab, kf⟩;rw [yl, <- tl, Q6] at tab kf;have kl : kvs.length <= 300 := by
    have := tab.len;lia
   refine ⟨_, rfl, .inr (.inr (.inl ⟨rfl, .inr ⟨_, hk⟩⟩)), d, kvs, rfl, rfl, hk, fun vw hvw => ?_⟩;have s3 := Same.new (o := jV vw d) hvw;refine ⟨vw, d, kvs, rfl, zC, s3 _ _ hk, fun o => ?_⟩;have hf : (upd (upd H3 vw (jV vw d)) d (.frz o (.dT kvs))) d = some (.frz o (.dT kvs)) := zC;have sm3 : Same H (upd (upd H3 vw (jV vw d)) d (.frz o (.dT kvs))) := My.Same.put (sm.trans s3) hd;generalize upd (upd H3 vw (jV vw d)) d (.frz o (.dT kvs)) = H4 at hf sm3 ⊢;refine zpf (fun σ => ∃ u v, σ = [u, v]) (fun i ys H' => Same H4 H' /\ Paired (TermAt H') ys (sel (kvs.take i))) ⟨_, _, rfl⟩ ⟨Same.refl _, .nil⟩ (qH kl) (fun i ys H' z => z.1 _ _ hf) ?_ ?_
   ·rintro i Tp b key vv ys σ H5 N ek hT hb5 ⟨u, v, rfl⟩ ⟨sm4, hy⟩ hN;have kin := Jq ek;obtain ⟨k2, e2⟩ := tab.val _ kin;injection e2 with e3 e4;subst e3 e4;have c := kf.ne (zxk n ps) kin;have s5 := Same.new (o := HO.tup [.ref b, .int (coef (jW n ps) k2)]) hT;have hT5 : (upd H5 Tp (.tup [.ref b, .int (coef (jW n ps) k2)])) Tp = some (.tup [.ref b, .int (coef (jW n ps) k2)]) := zC;have hb6 := zGr (s5 _ _ hb5);have sm5 := sm4.trans s5;have hy5 := yD hy s5;generalize upd H5 Tp (.tup [.ref b, .int (coef (jW n ps) k2)]) = H6 at s5 hT5 hb6 sm5 hy5 ⊢;refine ⟨Tp, _, rfl, SqT.of hT5, rfl, _, _, rfl, _, _, rfl, rfl, ?_⟩;dsimp only [yB, List.set];have e5 := zjv ek;rw [qE, if_neg c, Option.toList_some] at e5;have j0 : atI ([.int k2.1, .int k2.2] : List V) 0 = some (.int k2.1) := yC (j := 0) rfl;have j1 : atI ([.int k2.1, .int k2.2] : List V) 1 = some (.int k2.2) := yC (j := 1) rfl;refine zbk ⟨_, rfl, b, _, _, _, rfl, rfl, SqT.of hb6, j0, _, rfl, b, _, _, _, rfl, rfl, SqT.of hb6, j1, _, rfl, by show 3 <= sizeLine; decide, fun c2 hc2 => ?_⟩;have s6 := Same.new (o := HO.tup [.int k2.1, .int k2.2, .int (coef (jW n ps) k2)]) hc2;refine hN _ _ _ ⟨_, _, rfl⟩ ⟨sm5.trans s6, ?_⟩ (by simp);rw [e5];exact L2.Paired.snoc (yD hy5 s6) ⟨c2, rfl, zC⟩
   ·rintro ys5 H5 ⟨sm4, hy⟩ l hl;rw [Q6] at hy;have s5 := Same.new (o := HO.lst ys5) hl;have hl5 : (upd H5 l (.lst ys5)) l = some (.lst ys5) := zC;have hy5 := yD hy s5;have sm5 := sm4.trans s5;generalize upd H5 l (.lst ys5) = H6 at s5 hl5 hy5 sm5 ⊢;have yl5 : ys5.length = (sel kvs).length := Paired.length hy;have sl := zgr tab;have ss := zlv tab (zBm ok);have py : Paired (vK H6) ys5 ((sel kvs).map l3) := by
     have : ∀ {ys : List V} {us : List T3}, Paired (TermAt H6) ys us -> Paired (vK H6) ys (us.map l3) := by
      intro ys us h
      induction h with
      | nil => exact .nil
      | cons r _ ih => exact .cons (let ⟨a, e1, e2⟩ := r; ⟨a, e1, e2⟩) ih
     exact this hy5
    refine ⟨l, ys5, _, rfl, SqL.of hl5, by lia, py, fun ks hks => ?_, fun l2 rs' kss' p1 p2 p3 hl2 => ?_⟩
    ·obtain ⟨t, _, rfl⟩ := Ql.mp hks;intro z;cases z
    ·obtain ⟨L, rfl, pL, ll⟩ := zam tab p2 p3;have s6 := Same.new (o := HO.lst rs') hl2;have pt : Paired (TermAt H6) rs' L := by
      have : ∀ {rs : List V} {us : List T3}, Paired (vK H6) rs (us.map l3) -> Paired (TermAt H6) rs us := by
       intro rs us
       induction us generalizing rs with
       | nil => intro h; cases h; exact .nil
       | cons t us ih =>
        intro h;rw [Qm] at h;cases h with
        | cons r t => exact .cons (let ⟨a, e1, e2⟩ := r; ⟨a, e1, e2⟩) (ih t)
      exact this p1
     have s46 := sm3.trans (sm5.trans s6);refine q l2 rs' L _ s46 ?_ zC (yD pt s6) pL (by lia);cases e : H l2 with
     | none => rfl
     | some ob => exact absurd ((sm3.trans sm5) _ _ e) (by rw [hl2]; intro z; cases z)
end
def alf : Nat -> Int -> Int
 | 0, i => if i = 0 then 1 else 0
 | a + 1, i => alf a (i - 1) - alf a i
def xOne : List T3 := [(0, 0, -1), (1, 0, 1)]
def zgh : List T3 := [(0, 0, -1), (0, 1, 1)]
theorem zcg (t u : T3) (k : Int × Int) : k3 (qP t u) = k ↔ k3 t = gU k (k3 u) := by
 unfold k3 qP gU;dsimp only;rw [Prod.ext_iff, Prod.ext_iff];dsimp only;lia
theorem zdi (u1 u2 : T3) (k : Int × Int) : ∀ ts : List T3, coef (xL ts [u1, u2]) k = u1.2.2 * coef ts (gU k (k3 u1)) + u2.2.2 * coef ts (gU k (k3 u2))
 | [] => by
  show (0 : Int) = u1.2.2 * 0 + u2.2.2 * 0;lia
 | t :: ts => by
  have e : xL (t :: ts) [u1, u2] = qP t u1 :: qP t u2 :: xL ts [u1, u2] := rfl;rw [e, zZ, zZ, zZ, zZ, zdi u1 u2 k ts, Int.mul_add, Int.mul_add];have m1 : (if k3 (qP t u1) = k then (qP t u1).2.2 else 0) = u1.2.2 * (if k3 t = gU k (k3 u1) then t.2.2 else 0) := by
   by_cases c : k3 t = gU k (k3 u1)
   ·rw [if_pos c, if_pos ((zcg t u1 k).mpr c)]; exact Int.mul_comm _ _
   ·rw [if_neg c, if_neg fun z => c ((zcg t u1 k).mp z), Int.mul_zero]
  have m2 : (if k3 (qP t u2) = k then (qP t u2).2.2 else 0) = u2.2.2 * (if k3 t = gU k (k3 u2) then t.2.2 else 0) := by
   by_cases c : k3 t = gU k (k3 u2)
   ·rw [if_pos c, if_pos ((zcg t u2 k).mpr c)]; exact Int.mul_comm _ _
   ·rw [if_neg c, if_neg fun z => c ((zcg t u2 k).mp z), Int.mul_zero]
  rw [m1, m2];lia
theorem zha : ∀ (a : Nat) (i j : Int), coef (pwL xOne a) (i, j) = if j = 0 then alf a i else 0
 | 0, i, j => by
  show coef [(0, 0, 1)] (i, j) = _;rw [zZ, show coef [] (i, j) = 0 from rfl, Int.add_zero];unfold alf k3;dsimp only;by_cases c : j = 0
  ·by_cases d : i = 0
   ·rw [c, d]; rfl
   ·rw [if_neg (by rw [Prod.ext_iff]; dsimp only; lia), if_pos c, if_neg d]
  ·rw [if_neg (by rw [Prod.ext_iff]; dsimp only; lia), if_neg c]
 | a + 1, i, j => by
  show coef (xL (pwL xOne a) [(0, 0, -1), (1, 0, 1)]) (i, j) = _;rw [zdi];unfold gU k3;dsimp only;rw [Int.sub_zero, Int.sub_zero, zha a, zha a];by_cases c : j = 0
  ·rw [if_pos c, if_pos c, if_pos c];show _ = alf a (i - 1) - alf a i;lia
  ·rw [if_neg c, if_neg c, if_neg c];rfl
theorem zgz : ∀ (b : Nat) (i j : Int), coef (pwL zgh b) (i, j) = if i = 0 then alf b j else 0
 | 0, i, j => by
  show coef [(0, 0, 1)] (i, j) = _;rw [zZ, show coef [] (i, j) = 0 from rfl, Int.add_zero];unfold alf k3;dsimp only;by_cases c : i = 0
  ·by_cases d : j = 0
   ·rw [c, d]; rfl
   ·rw [if_neg (by rw [Prod.ext_iff]; dsimp only; lia), if_pos c, if_neg d]
  ·rw [if_neg (by rw [Prod.ext_iff]; dsimp only; lia), if_neg c]
 | b + 1, i, j => by
  show coef (xL (pwL zgh b) [(0, 0, -1), (0, 1, 1)]) (i, j) = _;rw [zdi];unfold gU k3;dsimp only;rw [Int.sub_zero, Int.sub_zero, zgz b, zgz b];by_cases c : i = 0
  ·rw [if_pos c, if_pos c, if_pos c];show _ = alf b (j - 1) - alf b j;lia
  ·rw [if_neg c, if_neg c, if_neg c];rfl
theorem zod : ∀ (a : Nat), ∀ t ∈ pwL xOne a, t.2.1 = 0
 | 0, t, h => by rw [Qx.mp h]
 | a + 1, t, h => by
  have h : t ∈ (pwL xOne a).flatMap fun t => xOne.map (qP t) := h;obtain ⟨u, hu, h2⟩ := List.mem_flatMap.mp h;obtain ⟨v, hv, rfl⟩ := Ql.mp h2;have e := zod a u hu;unfold qP;dsimp only;rw [e];unfold xOne at hv;rcases Qs.mp hv with rfl | hv
  ·rfl
  ·rw [Qx.mp hv]; rfl
theorem zwd (b : Nat) (i j : Int) : ∀ X : List T3, (∀ t ∈ X, t.2.1 = 0) -> (lin X fun k => coef (pwL zgh b) (gU (i, j) k)) = coef X (i, 0) * alf b j
 | [], _ => by
  show (0 : Int) = 0 * alf b j;lia
 | t :: X, h => by
  rw [gB, zwd b i j X fun u hu => h u (Qy _ hu), zZ, Int.add_mul];congr 1;have e := h t Qk;unfold k3 gU;dsimp only;rw [e, Int.sub_zero, zgz];by_cases c : t.1 = i
  ·rw [if_pos (by lia), if_pos (by rw [c])]
  ·rw [if_neg (by lia), if_neg (by rw [Prod.ext_iff]; dsimp only; lia), Int.mul_zero, Int.zero_mul]
theorem zux (a b : Nat) (i j : Int) : coef (xL (pwL xOne a) (pwL zgh b)) (i, j) = alf a i * alf b j := by
 rw [jC, zwd b i j _ (zod a), zha, if_pos rfl]
def scT (c : Int) (t : T3) : T3 := (t.1, t.2.1, c * t.2.2)
theorem zpg (c : Int) (k : Int × Int) : ∀ L : List T3, coef (L.map (scT c)) k = c * coef L k
 | [] => by show (0 : Int) = c * 0; lia
 | t :: L => by
  rw [Qm, zZ, zZ, zpg c k L, Int.mul_add];congr 1;show (if k3 t = k then c * t.2.2 else 0) = _;by_cases z : k3 t = k
  ·rw [if_pos z, if_pos z]
  ·rw [if_neg z, if_neg z, Int.mul_zero]
def tut (n : Int) (ps : List (Int × Int)) (k : Int × Int) : Int := sm (vJ ps) fun A => alf (zT n ps - rkP n ps A).toNat k.1 * alf ((A.length : Int) - rkP n ps A).toNat k.2
theorem zyp (n : Int) (ps : List (Int × Int)) (g : Int × Int -> Int) : lin (jW n ps) g = sm (vJ ps) fun A => g ((A.length : Int), rkP n ps A) := by
 unfold lin jW sm;rw [Wr];congr 1;refine Jm fun A _ => ?_;show 1 * g ((A.length : Int), rkP n ps A) = _;lia
def zAk (K : W.Frag) : Sp := fun vs H Q _ => ∃ (wv : V) (n : Int) (ps : List (Int × Int)), vs = [wv] /\ WebAt H wv n ps /\ xR n ps /\
 ∀ v L ts H', Same H H' -> PolyIs ts L -> (∀ k, coef ts k = tut n ps k) -> PolyAt H' v L -> Bd ts -> Q v H'
theorem zop (n : Int) (ps : List (Int × Int)) : ∀ l : List (List Int), nrm (l.map (tmS n ps)) = l.length
 | [] => rfl
 | a :: l => by
  rw [Qm, v4, zop n ps l, Jh];show 1 + l.length = l.length + 1;lia
theorem zBc : Deg (1 : Nat) xOne := fun t ht => by
 unfold xOne at ht;rcases Qs.mp ht with rfl | ht
 ·decide
 ·rw [Qx.mp ht]; decide
theorem zBb : Deg (1 : Nat) zgh := fun t ht => by
 unfold zgh at ht;rcases Qs.mp ht with rfl | ht
 ·decide
 ·rw [Qx.mp ht]; decide
theorem zCg {n : Int} {ps : List (Int × Int)} (ok : xR n ps) {L : List T3} (pi : PolyIs (jW n ps) L) {t : T3} (ht : t ∈ L) : 0 <= zT n ps - t.2.1 /\ 0 <= t.1 - t.2.1 /\ (zT n ps - t.2.1) + (t.1 - t.2.1) <= 8 /\ t.2.2.natAbs <= 300 := by
 obtain ⟨⟨n1, n9⟩, hb, h8⟩ := id ok;have o := wT n1 n9 hb;obtain ⟨a, b⟩ := (pi.mem t).mp ht;have ex : ∃ u ∈ jW n ps, k3 u = k3 t := by
  by_cases c : ∃ u ∈ jW n ps, k3 u = k3 t
  ·exact c
  ·exact absurd (b.trans (xZ fun u hu e => c ⟨u, hu, e⟩)) a
 obtain ⟨u, hu, e⟩ := ex;obtain ⟨A, hA, rfl⟩ := Ql.mp hu;have kA := zab h8 hA;have lA : (A.length : Int) <= ps.length := by
  have := (vV (zhd h8 hA)).2.2;obtain ⟨_, up⟩ := (xK h8).mp hA;exact kJ (by lia) (up.imp fun h => by lia) kA
 have e1 : (A.length : Int) = t.1 := congrArg Prod.fst e;have e2 : rkP n ps A = t.2.1 := congrArg Prod.snd e;have r1 := o.le kA;have r2 := o.gain kA (fun _ z => nomatch z : Ks ps.length [])
 rw [Wf, o.nil] at r2;have r3 : rkP n ps A <= zT n ps := o.mono kA (wR _) fun k hk => mem_ups.mpr (kA k hk);have ndA : A.Nodup := yZ ((xK h8).mp hA).2;have r4 := gP (xS (ps.length : Int)) A ndA fun k hk => mem_ups.mpr (kA k hk);rw [yP] at r4;have kD : Ks ps.length (gQ (ups ps.length) A) := fun k hk => mem_ups.mp (mem_off.mp hk).1;have r5 := o.gain kD kA;have r6 : rkP n ps (A ++ gQ (ups ps.length) A) = zT n ps := o.same (zR kA kD) (wR _) fun k => by
  rw [Qr, mem_off];constructor
  ·rintro (z | z)
   ·exact mem_ups.mpr (kA k z)
   ·exact z.1
  ·intro z;by_cases y : k ∈ A
   ·exact .inl y
   ·exact .inr ⟨z, y⟩
 have c1 := zcd ht;have c2 := pi.nrm;have c3 : nrm (jW n ps) = (vJ ps).length := zop n ps _;have c4 := gG h8;exact ⟨by lia, by lia, by lia, by lia⟩
theorem zGd : TD ((1 : Nat) : Int) xOne := fun t ht => by
 unfold xOne at ht;rcases Qs.mp ht with rfl | ht
 ·decide
 ·rw [Qx.mp ht]; decide
theorem zGc : TD ((1 : Nat) : Int) zgh := fun t ht => by
 unfold zgh at ht;rcases Qs.mp ht with rfl | ht
 ·decide
 ·rw [Qx.mp ht]; decide
section
variable {P : Program} {w : World} {K : W.Frag} {mg : Str -> Option Value} {base : Heap}
theorem scByP : zL ["web", "whole", "x_less_one", "y_less_one", "terms", "size", "rank", "many", "of_one_pick"] ["web"] (zE zAm) := ⟨rfl, rfl, rfl, by decide +kernel, rfl, by decide +kernel, by decide +kernel⟩
theorem znf : (["i", "j", "times", "many"] : List Str).Nodup := by decide +kernel
theorem zFw (S : Src K mg "by_picks" zAm ["web"]) (DW : Def P w K mg base 3 "rank_of_web" ["web"] (zbn K)) (DS : Def P w K mg base 3 "size_table" ["web"] (zGg K)) (DP : Def P w K mg base 2 "product_of" ["one", "other"] (zmy K)) (DT : Def P w K mg base 3 "to_power" ["poly", "k"] (zAj K)) (DG : Def P w K mg base 1 "gathered" ["terms"] (zhn K)) : Def P w K mg base 4 "by_picks" ["web"] (zAk K) := by
 refine S.def scByP (fun vs H Q E h => ?_) (fun f cdv A outer s H vs Q E hr h => ?_)
 ·obtain ⟨_, _, _, rfl, _⟩ := h; rfl
 ·obtain ⟨wv, n, ps, rfl, W, ok, q⟩ := h;obtain ⟨⟨n1, n9⟩, hb, h8⟩ := id ok;have hr1 : Room 1 _ := hr.mono (by decide);have hr2 : Room 2 _ := hr.mono (by decide);refine ⟨_, zD (zJ (i := 1) scByP.nd rfl (Or.inl rfl) (zH DW hr rfl (zA (pv 0) zB)))
   (zD (zJ (i := 2) scByP.nd rfl (Or.inl rfl) (y8 (zA (y8 (zA zF (zA zF (zA (zec kG zF) zB)))) (zA (y8 (zA zF (zA zF (zA zF zB)))) zB))))
   (zD (zJ (i := 3) scByP.nd rfl (Or.inl rfl) (y8 (zA (y8 (zA zF (zA zF (zA (zec kG zF) zB)))) (zA (y8 (zA zF (zA zF (zA zF zB)))) zB))))
   (zD (zJ (i := 4) scByP.nd rfl (Or.inl rfl) (xM zB))
   (zD (wG PassesOwn.never rfl (yM K .l (zH DS hr rfl (zA (pv 0) zB))) (wC K 3 rfl (zW (zI (i := 5) scByP.nd rfl (Or.inl rfl)) (zW (zI (i := 6) scByP.nd rfl (Or.inl rfl)) (zW (zI (i := 7) scByP.nd rfl (Or.inr rfl)) wB))))
    (zD (zJ (i := 8) scByP.nd rfl (Or.inl rfl) (zH DP hr2 rfl (zA (zH DT hr rfl (zA (pv 2) (zA (zQ zbd (pv 1) (pv 6)) zB))) (zA (zH DT hr rfl (zA (pv 3) (zA (zQ zbd (pv 5) (pv 6)) zB))) zB))))
    (zG (wV (k5 PySem.F.plainAttrs_list PySem.F.slot_list_extend PySem.F.type_list_extend vW (pv 4) (zA (yT (N' := ["i", "j", "times", "many"]) (fr := [none, none, none, some 7]) (zS (by rfl)) rfl (yM K .t (pv 8))
     (g := zmi K 3 (w4 (yB 0) (w4 (yB 1) (w4 (yB 2) zoz)))) (fun _ _ _ _ => wC K 3 rfl (zW (zI (i := 0) znf rfl (Or.inl rfl) (Or.inr rfl)) (zW (zI (i := 1) znf rfl (Or.inl rfl) (Or.inr rfl)) (zW (zI (i := 2) znf rfl (Or.inl rfl) (Or.inr rfl)) wB))))
     (fun _ _ _ _ => xA) (fun _ _ _ _ => y8 (zA (pv 0) (zA (pv 1) (zA (zQ zol (pv 3) (pv 2)) zB))))) zB))))))
   (zG (zO (zH DG hr1 rfl (zA (pv 4) zB)))))))), ?_⟩
  refine zK fun M hM => ?_;refine ⟨_, rfl, wv, n, ps, rfl, W, n1, n9, hb, h8, fun H1 s1 => ?_⟩;have eR : n - ((xI (hdF ps (ups n) (ups ps.length)) : Nat) : Int) = zT n ps := rfl;rw [eR];refine hM _ _ ?_;clear hM M;refine zK fun M hM => ?_;refine ⟨_, rfl, by show 3 <= sizeLine; decide, fun a1 ha1 => ⟨by show 3 <= sizeLine; decide, fun a2 ha2 => ⟨by show 2 <= sizeLine; decide, fun xo hxo => ?_⟩⟩⟩;have u1 := Same.new (o := HO.tup [.int 0, .int 0, .int (-1)]) ha1;have u2 := Same.new (o := HO.tup [.int 1, .int 0, .int 1]) ha2;have u3 := Same.new (o := HO.tup [.ref a1, .ref a2]) hxo;have s2 := s1.trans (u1.trans (u2.trans u3));have px : PolyAt (upd (upd (upd H1 a1 (.tup [.int 0, .int 0, .int (-1)])) a2 (.tup [.int 1, .int 0, .int 1])) xo (.tup [.ref a1, .ref a2])) (.ref xo) xOne := ⟨xo, _, rfl, zC, .cons ⟨a1, rfl, (u2.trans u3) _ _ zC⟩ (.cons ⟨a2, rfl, u3 _ _ zC⟩ .nil)⟩;clear u1 u2 u3;generalize upd (upd (upd H1 a1 (.tup [.int 0, .int 0, .int (-1)])) a2 (.tup [.int 1, .int 0, .int 1])) xo (.tup [.ref a1, .ref a2]) = H2 at px s2 ⊢;refine hM _ _ ?_;clear hM M;refine zK fun M hM => ?_;refine ⟨_, rfl, by show 3 <= sizeLine; decide, fun b1 hb1 => ⟨by show 3 <= sizeLine; decide, fun b2 hb2 => ⟨by show 2 <= sizeLine; decide, fun yo hyo => ?_⟩⟩⟩
  replace hb2 : upd H2 b1 (.tup [.int 0, .int 0, .int (-1)]) b2 = none := hb2
  replace hyo : upd (upd H2 b1 (.tup [.int 0, .int 0, .int (-1)])) b2 (.tup [.int 0, .int 1, .int 1]) yo = none := hyo
  have u1 := Same.new (o := HO.tup [.int 0, .int 0, .int (-1)]) hb1;have u2 := Same.new (o := HO.tup [.int 0, .int 1, .int 1]) hb2;have u3 := Same.new (o := HO.tup [.ref b1, .ref b2]) hyo;have s3 := s2.trans (u1.trans (u2.trans u3));have px3 := px.same (u1.trans (u2.trans u3));have py3 : PolyAt (upd (upd (upd H2 b1 (.tup [.int 0, .int 0, .int (-1)])) b2 (.tup [.int 0, .int 1, .int 1])) yo (.tup [.ref b1, .ref b2])) (.ref yo) zgh := ⟨yo, _, rfl, zC, .cons ⟨b1, rfl, (u2.trans u3) _ _ zC⟩ (.cons ⟨b2, rfl, u3 _ _ zC⟩ .nil)⟩;clear u1 u2 u3;generalize upd (upd (upd H2 b1 (.tup [.int 0, .int 0, .int (-1)])) b2 (.tup [.int 0, .int 1, .int 1])) yo (.tup [.ref b1, .ref b2]) = H3 at px3 py3 s3 ⊢;refine hM _ _ ?_;clear hM M;refine zK fun M hM => ?_;refine ⟨by show 0 <= sizeLine; decide, fun l hlN => ?_⟩;have s4 := Same.new (o := HO.lst []) hlN;have hl4 : (upd H3 l (.lst [])) l = some (.lst []) := zC;generalize upd H3 l (.lst []) = H4 at s4 hl4 ⊢;refine hM _ _ ?_;clear hM M;refine zK fun M hM => ?_;refine ⟨_, rfl, wv, n, ps, rfl, W.same (s3.trans s4), ok, fun g rs L H5 s5 hgN hg hrs pi ll => ?_⟩;have rl : rs.length = L.length := Paired.length hrs;have s35 := s4.trans s5;refine ⟨g, rfl, ⟨_, SqL.of hg⟩, vP (k := .l) (K := K) (a := g) (xs := rs) (fun i σ H' => (∃ c5 c6 c7 c8, σ = [some wv, some (.int (zT n ps)), some (.ref xo), some (.ref yo), some (.ref l), c5, c6, c7, c8]) /\ Same H3 H' /\ H' g = some (.lst rs) /\ Paired (TermAt H') rs L /\ ∃ zs ts, H' l = some (.lst zs) /\ Paired (TermAt H') zs ts /\ ts.length <= 289 * i /\ Bd ts /\ ∀ k : Int × Int, coef ts k = lin (L.take i) fun m => alf (zT n ps - m.2).toNat k.1 * alf (m.1 - m.2).toNat k.2)
   ⟨⟨_, _, _, _, rfl⟩, s35, hg, hrs, [], [], s5 _ _ hl4, .nil, Jj _, (fun _ z => nomatch z), fun _ => rfl⟩ (fun i σ H' _ z => SqL.of z.2.2.1) ?_ ?_⟩
  ·rintro i x σ H6 hx ⟨⟨c5, c6, c7, c8, rfl⟩, sm, hg6, hrs6, zs, ts, hz, pz, tl, bd, hco⟩;have il : i < rs.length := (Qf.mp hx).1;obtain ⟨t, et, b, rfl, hb6⟩ := Paired.at hrs6 hx;obtain ⟨m0, k0, mk8, c300⟩ := zCg ok pi (Jq et);have m8 : zT n ps - t.2.1 <= 8 := by lia
   have k8 : t.1 - t.2.1 <= 8 := by lia
   refine ⟨b, _, rfl, SqT.of hb6, rfl, _, _, rfl, _, _, rfl, _, _, rfl, rfl, ?_⟩;dsimp only [List.set];have nx : nrm xOne <= 2 ^ 400 := Jx (show 2 <= 2 ^ 1 by decide) (Nat.pow_le_pow_right (by decide) (by decide));have ny : nrm zgh <= 2 ^ 400 := Jx (show 2 <= 2 ^ 1 by decide) (Nat.pow_le_pow_right (by decide) (by decide));have hlen : ∀ k : Int, k <= 8 -> ∀ j : Nat, j < k.toNat -> (1 * j + 1) * (1 * j + 1) * 2 < 100000 := fun k hk j hj => by
    have : (1 * j + 1) * (1 * j + 1) <= 9 * 9 := Nat.mul_le_mul (by lia) (by lia);lia
   refine zK fun M1 hM1 => ?_;refine ⟨_, rfl, _, rfl, _, rfl, _, _, rfl, rfl, .ref xo, xOne, zT n ps - t.2.1, 1, rfl, (px3.same sm).K, m0, by lia, zBc, hlen _ m8, (by show 2 < 100000; decide), zGd, (fun j hj => by lia), nx, fun x1 L1 G1 r1 pi1 px1 => ?_⟩;refine ⟨_, rfl, _, rfl, _, rfl, _, _, rfl, rfl, .ref yo, zgh, t.1 - t.2.1, 1, rfl, (py3.same (sm.trans r1)).K, k0, by lia, zBb, hlen _ k8, (by show 2 < 100000; decide), zGc, (fun j hj => by lia), ny, fun x2 M2 G2 r2 pi2 px2 => ?_⟩;have d1 := pi1.deg (zin zBc (zT n ps - t.2.1).toNat);have d2 := pi2.deg (zin zBb (t.1 - t.2.1).toNat);have t1 := pi1.td (zrp zGd (zT n ps - t.2.1).toNat);have t2 := pi2.td (zrp zGc (t.1 - t.2.1).toNat);have l1 : L1.length <= 81 := Jx (gZ pi1.up d1) (Nat.mul_le_mul (show _ <= 9 by lia) (show _ <= 9 by lia));have l2 : M2.length <= 81 := Jx (gZ pi2.up d2) (Nat.mul_le_mul (show _ <= 9 by lia) (show _ <= 9 by lia));have l12 : L1.length * M2.length <= 81 * 81 := Nat.mul_le_mul l1 l2;refine ⟨x1, x2, L1, M2, rfl, px1.same r2, px2, by lia, by lia, fun a ha b hb => IntMulOk.of_le (zgt nx (by lia) pi1 a ha) (zgt ny (by lia) pi2 b hb) (by decide), zxg (t1.prod t2) (by lia), fun x3 L3 G3 r3 pi3 _ pa3 => ?_⟩;have r63 := r1.trans (r2.trans r3);obtain ⟨c3, rs3, rfl, hc3, ht3⟩ := pa3.ex;have rl3 : rs3.length = L3.length := Paired.length ht3;have d3 : Deg (((1 * (zT n ps - t.2.1).toNat + 1 * (t.1 - t.2.1).toNat : Nat)) : Int) L3 := by
    have := pi3.deg (d1.prod d2);rw [Int.natCast_add];exact this
   have l3 : L3.length <= 289 := Jx (gZ pi3.up d3) (Nat.mul_le_mul (show _ <= 17 by lia) (show _ <= 17 by lia));have n3 : nrm L3 <= 2 ^ 8 * 2 ^ 8 := by
    refine Jx pi3.nrm ?_;rw [zda];refine Nat.mul_le_mul (Jx pi1.nrm ?_) (Jx pi2.nrm ?_)
    ·rw [zii];exact Nat.pow_le_pow_right (by decide) (by lia)
    ·rw [zii];exact Nat.pow_le_pow_right (by decide) (by lia)
   have hm : ∀ r ∈ L3, IntMulOk t.2.2 r.2.2 := fun r hr3 => by
    have a := zcd hr3;have b1 : intBits t.2.2 <= 9 := intBits_le_iff.mpr (show t.2.2.natAbs < 2 ^ 9 by lia);have b2 : intBits r.2.2 <= 17 := intBits_le_iff.mpr (show r.2.2.natAbs < 2 ^ 17 by lia);exact IntMulOk.of_le b1 b2 (by decide)
   have hz3 := r63 _ _ hz;refine hM1 _ _ ?_;clear hM1 M1;refine ⟨_, rfl, .inl ⟨rfl, _, SqL.of hz3⟩, _, rfl, c3, rfl, ⟨_, SqT.of hc3⟩, ?_⟩;refine yX (k := .t) (a := c3) (xs := rs3) (fun σ => ∃ e1 e2 e3, σ = [e1, e2, e3, some (.int t.2.2)]) (fun j ys H7 => Same G3 H7 /\ Paired (TermAt H7) ys ((L3.take j).map (scT t.2.2))) ⟨_, _, _, rfl⟩ ⟨Same.refl _, .nil⟩ (zsl (by lia)) (fun j ys H7 _ z => SqT.of (z.1 _ _ hc3)) ?_ ?_
   ·rintro j x ys σ H7 N hx3 ⟨e1, e2, e3, rfl⟩ ⟨s7, py⟩ hN;obtain ⟨r, er, b3, rfl, hb3⟩ := Paired.at ht3 hx3;refine ⟨b3, _, rfl, SqT.of (s7 _ _ hb3), rfl, _, _, rfl, _, _, rfl, _, _, rfl, rfl, ?_⟩;dsimp only [yB, List.set];refine zbk ⟨_, rfl, _, rfl, _, rfl, _, rfl, _, _, rfl, rfl, hm r (Jq er), by show 3 <= sizeLine; decide, fun p4 hp4 => ?_⟩;refine hN _ _ _ ⟨_, _, _, rfl⟩ ⟨s7.trans (Same.new hp4), ?_⟩ (by simp);rw [zM er, Qu];exact L2.Paired.snoc (yD py (Same.new hp4)) ⟨p4, rfl, zC⟩
   ·rintro ys H7 ⟨s7, py⟩ p4 hp4;rw [rl3, Q6] at py;have r7 := Same.new (o := HO.lst ys) hp4;have r67 := r63.trans (s7.trans r7);have z1 := Paired.length pz;have z2 := Paired.length py;rw [Qj] at z2;have hz4 := r67 _ _ hz;refine ⟨l, p4, zs, ys, rfl, rfl, hz4, zC, J9 (zsl (by lia)), ?_⟩;have hg7 := r67 _ _ hg6;have ngl : g ≠ l := fun e => by
     rw [e, hl4] at hgN;cases hgN
    refine ⟨⟨_, _, _, _, rfl⟩, My.Same.put (sm.trans r67) hlN, by rw [zU ngl]; exact hg7, zad (yD hrs6 r67) hz4, zs ++ ys, ts ++ L3.map (scT t.2.2), zC, zad (zcc (yD pz r67) (yD py r7)) hz4, ?_, ?_, fun k => ?_⟩
    ·rw [Q3, Qj];lia
    ·intro u hu;rcases Qr.mp hu with z | z
     ·exact bd u z
     ·obtain ⟨v, hv, rfl⟩ := Ql.mp z;exact zxg (pi3.td (t1.prod t2)) (by lia) v hv
    ·rw [gC, zpg, hco k, zM et, zyq, gB, show lin [] (fun m : Int × Int => alf (zT n ps - m.2).toNat k.1 * alf (m.1 - m.2).toNat k.2) = 0 from rfl, Int.add_zero, pi3.coef, zkc pi1.eqv pi2.eqv (k.1, k.2), zux];rfl
  ·rintro σ H6 ⟨⟨c5, c6, c7, c8, rfl⟩, sm, hg6, hrs6, zs, ts, hz, pz, tl, bd, hco⟩;refine hM _ _ ?_;refine ⟨_, rfl, .l, l, zs, ts, rfl, SqL.of hz, zhi pz, by lia, bd, fun x L' H7 s7 pi7 pl7 pa7 => ?_⟩;refine q x L' ts H7 (s3.trans (sm.trans s7)) pi7 (fun k => ?_) pa7 bd;rw [hco k, rl, Q6, zoq pi.eqv, zyp];rfl
end
def zvn (K : W.Frag) : Sp := fun vs H Q _ => ∃ (v : V) (L : List T3), vs = [v] /\ PolyAt H v L /\ L.length < 1000 /\ Bd (L.map sw) /\ ∀ v' M H', Same H H' -> PolyIs (L.map sw) M -> M.length <= L.length -> PolyAt H' v' M -> Q v' H'
section
variable {P : Program} {w : World} {K : W.Frag} {mg : Str -> Option Value} {base : Heap}
theorem zCd : zL ["poly"] ["poly"] (zE zsb) := ⟨rfl, rfl, rfl, by decide +kernel, rfl, by decide +kernel, by decide +kernel⟩
theorem zwy : (["i", "j", "times"] : List Str).Nodup := by decide +kernel
theorem zEd (S : Src K mg "exchanged" zsb ["poly"]) (DG : Def P w K mg base 1 "gathered" ["terms"] (zhn K)) : Def P w K mg base 2 "exchanged" ["poly"] (zvn K) := by
 refine S.def zCd (fun vs H Q E h => ?_) (fun f cdv A outer s H vs Q E hr h => ?_)
 ·obtain ⟨_, _, rfl, _⟩ := h; rfl
 ·obtain ⟨v, L, rfl, pa, l64, bd, q⟩ := h;obtain ⟨c, rs, rfl, hc, ht⟩ := pa.ex;have rl : rs.length = L.length := Paired.length ht;refine ⟨_, zG (zO (zH DG hr rfl (zA (yT (N' := ["i", "j", "times"]) (fr := [none, none, none]) (zS (by rfl)) rfl (yM K .t (pv 0))
   (g := zmi K 3 (w4 (yB 0) (w4 (yB 1) (w4 (yB 2) zoz)))) (fun _ _ _ _ => wC K 3 rfl (zW (zI (i := 0) zwy rfl (Or.inl rfl) (Or.inr rfl)) (zW (zI (i := 1) zwy rfl (Or.inl rfl) (Or.inr rfl)) (zW (zI (i := 2) zwy rfl (Or.inl rfl) (Or.inr rfl)) wB))))
   (fun _ _ _ _ => xA) (fun _ _ _ _ => y8 (zA (pv 1) (zA (pv 0) (zA (pv 2) zB))))) zB))), ?_⟩
  refine ⟨_, rfl, c, rfl, ⟨_, SqT.of hc⟩, yX (k := .t) (a := c) (xs := rs) (fun σ => ∃ u v r, σ = [u, v, r]) (fun i ys H' => Same H H' /\ Paired (TermAt H') ys ((L.take i).map sw)) ⟨_, _, _, rfl⟩ ⟨Same.refl _, .nil⟩ (zsl (by lia)) (fun i ys H' _ z => SqT.of (z.1 _ _ hc)) ?_ ?_⟩
  ·rintro i z ys σ H' N hz ⟨u, v, r, rfl⟩ ⟨sm, hy⟩ hN;obtain ⟨t, e1, b, rfl, hb⟩ := Paired.at ht hz;refine ⟨b, _, rfl, SqT.of (sm _ _ hb), rfl, _, _, rfl, _, _, rfl, _, _, rfl, rfl, ?_⟩;dsimp only [yB, List.set];refine zbk ⟨_, rfl, _, rfl, _, rfl, by show 3 <= sizeLine; decide, fun d hd => ?_⟩;refine hN _ _ _ ⟨_, _, _, rfl⟩ ⟨sm.trans (Same.new hd), ?_⟩ (by simp);rw [zM e1, Qu];exact L2.Paired.snoc (yD hy (Same.new hd)) ⟨d, rfl, zC⟩
  ·rintro ys H' ⟨sm, hy⟩ p hp;rw [rl, Q6] at hy;have s1 := Same.new (o := HO.lst ys) hp;exact ⟨.l, p, ys, L.map sw, rfl, SqL.of zC, zhi (yD hy s1), by rw [Qj]; lia, bd, fun v' M H2 s2 pM ml pat => q v' M H2 ((sm.trans s1).trans s2) pM (by rw [Qj] at ml; exact ml) pat⟩
end
theorem zrd {k : Kd} {K : W.Frag} {a : Addr} {xs : List V} {g : TG} {tt : TT} {te : TE} {fin : List V -> Hp -> Prop} {σ : St} {H : Hp} (S : St -> Prop) (Pv : Nat -> List V -> Hp -> Prop) (hσ : S σ) (h0 : Pv 0 [] H) (hz : xs.length < sizeLine)
  (hl : ∀ i ys H, i <= xs.length -> Pv i ys H -> SqK k K H a xs)
  (hs : ∀ (i : Nat) (x : V) (p : Addr) (ys : List V) (σ : St) (H : Hp) (N : List V -> St -> Hp -> Prop), xs[i]? = some x -> S σ -> Pv i ys H -> H p = none -> (∀ ys' σ' H', S σ' -> Pv (i + 1) ys' H' -> ys'.length <= ys.length + 1 -> N ys' σ' H') ->
   g (.ref p) σ (upd H p (.tup [.int i, x])) fun σ2 H2 => tt σ2 H2 fun b H3 => if b = true then te σ2 H3 fun y H4 => N (ys ++ [y]) σ2 H4 else N ys σ2 H3)
  (hd : ∀ ys H, Pv xs.length ys H -> fin ys H) : ∃ W, zej (ItE k K a) g tt te fin W /\ ∃ m, W 0 m [] σ H := by
 refine ⟨fun i m ys σ H => m = xs.length - i /\ i <= xs.length /\ ys.length <= i /\ S σ /\ Pv i ys H, ?_, xs.length, by simp, Jj _, Qw _, hσ, h0⟩;rintro i m ys σ H ⟨rfl, hi, hy, hS, p⟩;have q := hl i ys H hi p;by_cases hlt : i < xs.length
 ·refine .inr ⟨⟨xs, xs[i], q, by simp [hlt]⟩, by lia, fun x H' y => ?_⟩;obtain ⟨r, x, hn, rfl, hx2, rfl⟩ := y;exact hs i x r ys σ H (fun ys' σ' H'' => ∃ m', m' < xs.length - i /\ m' = xs.length - (i + 1) /\ i + 1 <= xs.length /\ ys'.length <= i + 1 /\ S σ' /\ Pv (i + 1) ys' H'') (hx2 xs q) hS p hn (fun ys' σ' H'' a b c => ⟨_, by lia, rfl, hlt, by lia, a, b⟩)
 ·have e : i = xs.length := by lia
  subst e;exact .inl ⟨⟨xs, q, Qw _⟩, by lia, hd ys H p⟩
def PartAt (H0 H : Hp) (v : V) (ns : List Int) : Prop := ∃ a, v = .ref a /\ H0 a = none /\ H a = some (.lst (ns.map V.int))
theorem PartAt.same {H0 H H' : Hp} {v : V} {ns : List Int} (h : PartAt H0 H v ns) (e : Same H H') : PartAt H0 H' v ns := let ⟨a, h1, h2, h3⟩ := h; ⟨a, h1, h2, e _ _ h3⟩
theorem zcb {H0 H H' : Hp} {xs : List V} {pp : List (List Int)} (h : Paired (PartAt H0 H) xs pp) (e : Same H H') : Paired (PartAt H0 H') xs pp := L2.Paired.mapP h fun _ _ q => q.same e
def znp (K : W.Frag) : Sp := fun vs H Q _ => ∃ (l : Addr) (n : Int) (hs : List Int) (h : Int), vs = [.ref l, .int h] /\ SqL K H l (hs.map V.int) /\ (hs.length : Int) = n /\ n <= 9 /\ ∀ p H', Same H H' -> H p = none -> H' p = some (.lst ((zws n hs h).map V.int)) -> Q (.ref p) H'
def zvo (K : W.Frag) : Sp := fun vs H Q _ => ∃ (wv : V) (pk : Addr) (n : Int) (ps : List (Int × Int)) (ks : List Int), vs = [wv, .ref pk] /\ WebAt H wv n ps /\ 1 <= n /\ n <= 9 /\ (∀ p ∈ ps, InN n p) /\ SqT K H pk (ks.map V.int) /\ Ks ps.length ks /\
 ∀ l xs H', Same H H' -> H l = none -> H' l = some (.lst xs) -> Paired (PartAt H H') xs (zed n (hdF ps (ups n) ks)) -> Q (.ref l) H'
section
variable {P : Program} {w : World} {K : W.Frag} {mg : Str -> Option Value} {base : Heap}
theorem zxs : zL ["heads", "head"] ["heads", "head"] (zE zhq) := ⟨rfl, rfl, rfl, by decide +kernel, rfl, by decide +kernel, by decide +kernel⟩
theorem zGq : (["point", "own", "head"] : List Str).Nodup := by decide +kernel
theorem zzh (T : Txt K mg) (henum : mg "enumerate" = none) (S : Src K mg "points_under" zhq ["heads", "head"]) : Def P w K mg base 1 "points_under" ["heads", "head"] (znp K) := by
 refine S.def zxs (fun vs H Q E h => ?_) (fun f cdv A outer s H vs Q E hr h => ?_)
 ·obtain ⟨_, _, _, _, rfl, _⟩ := h; rfl
 ·obtain ⟨l, n, hs, h, rfl, hl, hlen, h9, q⟩ := h;refine ⟨_, zG (zO (yT (N' := ["point", "own", "head"]) (fr := [none, none, some 1]) (zS (by rfl)) rfl (zcy K .l rfl henum (zA (pv 0) zB))
   (g := zmi K 2 (w4 (yB 0) (w4 (yB 1) zoz))) (fun _ _ _ _ => wC K 2 rfl (zW (zI (i := 0) zGq rfl (Or.inl rfl) (Or.inr rfl)) (zW (zI (i := 1) zGq rfl (Or.inl rfl) (Or.inr rfl)) wB)))
   (fun _ _ _ _ => y9 (yF qL (pv 1) (pv 2) (yQ _))) (fun _ _ _ _ => pv 0))), ?_⟩
  refine ⟨_, rfl, l, _, rfl, hl, zrd (k := .l) (a := l) (xs := hs.map V.int) (fun σ => ∃ u v, σ = [u, v, some (.int h)]) (fun i ys H2 => Same H H2 /\ ys = ((ups i).filter fun j => decide (at0 hs j = h)).map V.int) ⟨_, _, rfl⟩ ⟨Same.refl H, rfl⟩ (by rw [Qj]; exact xF (by lia)) (fun j ys H2 _ z => z.1.seq hl) ?_ ?_⟩
  ·rintro j x p ys σ H2 N hx ⟨u, v, rfl⟩ ⟨sm, rfl⟩ hp hN;obtain ⟨h0, eh, rfl⟩ : ∃ h0, hs[j]? = some h0 /\ V.int h0 = x := by
    rw [Jz] at hx;cases e : hs[j]? with
    | none => rw [e] at hx; simp at hx
    | some k => rw [e] at hx; simp at hx; exact ⟨k, rfl, hx⟩
   refine ⟨p, _, rfl, SqT.of zC, rfl, _, _, rfl, _, _, rfl, rfl, ?_⟩;dsimp only [List.set];have ea : at0 hs (j : Int) = h0 := by unfold at0; rw [Q4, Qd, eh]; rfl
   have s2 := sm.trans (Same.new (o := HO.tup [.int j, .int h0]) hp);refine ⟨_, rfl, _, rfl, rfl, _, rfl, ?_⟩;by_cases he : h0 = h
   ·rw [Q2 (show V.int h0 = V.int h by rw [he])];refine jP ⟨_, rfl, hN _ _ _ ⟨_, _, rfl⟩ ⟨s2, ?_⟩ (by simp)⟩;rw [show ((j + 1 : Nat) : Int) = (j : Int) + 1 by lia, vY (by lia), Wz, Qu];simp [ea, he]
   ·rw [Q8 (show ¬ V.int h0 = V.int h from fun z => he (by injection z))];refine wL (hN _ _ _ ⟨_, _, rfl⟩ ⟨s2, ?_⟩ (by simp));rw [show ((j + 1 : Nat) : Int) = (j : Int) + 1 by lia, vY (by lia), Wz];simp [ea, he]
  ·rintro ys H2 ⟨sm, rfl⟩ p hp;refine q p _ (sm.trans (Same.new hp)) (sm.free hp) ?_;rw [zC, Qj, hlen];rfl
theorem scClus : zL ["web", "pick", "heads"] ["web", "pick"] (zE zsd) := ⟨rfl, rfl, rfl, by decide +kernel, rfl, by decide +kernel, by decide +kernel⟩
theorem zHv : (["head", "heads"] : List Str).Nodup := by decide +kernel
theorem zky {n : Int} {hs : List Int} : (wZ n hs).length <= n.toNat := by
 have := Jr (fun i => decide (at0 hs i = i)) (ups n);rw [yP] at this;exact this
theorem zEe (T : Txt K mg) (hset : mg "set" = none) (hsor : mg "sorted" = none) (S : Src K mg "clusters_of" zsd ["web", "pick"]) (DH : Def P w K mg base 1 "heads_of" ["web", "pick"] (gK K)) (DU : Def P w K mg base 1 "points_under" ["heads", "head"] (znp K)) :
  Def P w K mg base 2 "clusters_of" ["web", "pick"] (zvo K) := by
 refine S.def scClus (fun vs H Q E h => ?_) (fun f cdv A outer s H vs Q E hr h => ?_)
 ·obtain ⟨_, _, _, _, _, rfl, _⟩ := h; rfl
 ·obtain ⟨wv, pk, n, ps, ks, rfl, W, n1, n9, hb, hk, hks, q⟩ := h;have hr1 : Room 1 _ := hr.mono (by decide);refine ⟨_, zD (zJ (i := 2) scClus.nd rfl (Or.inr rfl) (zH DH hr1 rfl (zA (pv 0) (zA (pv 1) zB))))
   (zG (zO (yT (N' := ["head", "heads"]) (fr := [none, some 2]) (zS (by rfl)) rfl (yM K .l (zN (zgb rfl) (by rfl) hsor xT (zA (zY (zre rfl) rfl hset zfm (zA (pv 2) zB)) zB)))
    (fun _ _ _ _ => zI (i := 0) zHv rfl (Or.inl rfl) (Or.inr rfl)) (fun _ _ _ _ => xA) (fun _ _ _ _ => zH DU hr1 rfl (zA (pv 1) (zA (pv 0) zB)))))), ?_⟩
  have G := vF n1 hb hks;refine ⟨_, rfl, _, rfl, wv, pk, n, ps, ks, rfl, W, n1, n9, hb, hk, hks, fun l H1 s1 hl => ?_⟩;generalize hdF ps (ups n) ks = hs at hl G q;have hlen := G.len;have hm := zaf G n.toNat (by lia);rw [show ((n.toNat : Nat) : Int) = n by lia] at hm
  change _ = wZ n hs at hm
  refine ⟨_, rfl, l, hs, rfl, SqL.of hl, by lia, fun m hm' => ?_, fun a ha => ?_⟩
  ·obtain ⟨i, hi, rfl⟩ := List.getElem_of_mem hm';have := G.le i (by lia) (by lia);have e : at0 hs i = hs[i] := by unfold at0; rw [Q4]; simp [List.getD, hi]
   lia
  have hn : hs.length = n.toNat := by lia
  rw [hn, hm];have s2 := Same.new (o := zvr w a (wZ n hs)) ha;refine ⟨a, wZ n hs, rfl, zC, by have := zky (n := n) (hs := hs); lia, zud n1 n9 G, fun b ms pm up hb' => ?_⟩;have em : ms = wZ n hs := gN pm up (zox n hs);rw [em];dsimp only [zmn, Cx.nox] at hb' ⊢;have s3 := Same.new (o := HO.lst ((wZ n hs).map V.int)) hb';have h3 : (upd (upd H1 a (zvr w a (wZ n hs))) b (.lst ((wZ n hs).map V.int))) b = some (.lst ((wZ n hs).map V.int)) := zC;have s13 := s1.trans (s2.trans s3);have hl3 := s3 _ _ (s2 _ _ hl);generalize upd (upd H1 a (zvr w a (wZ n hs))) b (.lst ((wZ n hs).map V.int)) = H3 at h3 s13 hl3 ⊢;refine ⟨b, rfl, ⟨_, SqL.of h3⟩, yX (k := .l) (a := b) (xs := (wZ n hs).map V.int) (fun σ => ∃ u, σ = [u, some (.ref l)]) (fun i ys H2 => Same H3 H2 /\ Paired (PartAt H H2) ys (((wZ n hs).take i).map (zws n hs))) ⟨_, rfl⟩ ⟨Same.refl _, .nil⟩ (by rw [Qj]; exact xF (by have := zky (n := n) (hs := hs); lia)) (fun j ys H2 _ z => z.1.seq (SqL.of h3)) ?_ ?_⟩
  ·rintro j x ys σ H2 N hx ⟨u, rfl⟩ ⟨sm, pp⟩ hN;obtain ⟨h0, eh, rfl⟩ : ∃ h0, (wZ n hs)[j]? = some h0 /\ V.int h0 = x := by
    rw [Jz] at hx;cases e : (wZ n hs)[j]? with
    | none => rw [e] at hx; simp at hx
    | some k => rw [e] at hx; simp at hx; exact ⟨k, rfl, hx⟩
   dsimp only [yB, List.set];refine zbk ?_;refine ⟨_, rfl, _, rfl, l, n, hs, h0, rfl, SqL.of (sm _ _ hl3), hlen, n9, fun p H4 s4 fp hp => ?_⟩;refine hN _ _ _ ⟨_, rfl⟩ ⟨sm.trans s4, ?_⟩ (by simp);rw [zM eh, Qu];exact L2.Paired.snoc (zcb pp s4) ⟨p, rfl, (s13.trans sm).free fp, hp⟩
  ·rintro ys H2 ⟨sm, pp⟩ p hp;rw [Qj, Q6] at pp;exact q p ys _ ((s13.trans sm).trans (Same.new hp)) ((s13.trans sm).free hp) zC (zcb pp (Same.new hp))
end
theorem ztv (a b x : Nat) : swp a b (mate x) = mate (swp (mate a) (mate b) x) := by
 by_cases h1 : x = mate a
 ·rw [h1, yK, kO, kO, yK]
 ·by_cases h2 : x = mate b
  ·rw [h2, yK, zat, zat, yK]
  ·rw [qY h1 h2, qY (fun z => h1 (by rw [<- z, yK])) (fun z => h2 (by rw [<- z, yK]))]
section
variable {L : List Nat} {k e p : Nat}
theorem xQ (hl : L.length = 2 * k) (he : e < 2 * k) (hp : p < 2 * k) (hf : fn L p = p) : fn (yN L e p) = fun x => fn L (swp e p x) := funext fun x => zrm (by lia) (by lia) hf x
theorem j6 (hl : L.length = 2 * k) (he : e < 2 * k) (hp : p < 2 * k) (hf : fn L p = p) : phi (yN L e p) = fun x => phi L (swp (mate e) (mate p) x) := funext fun x => by
 show fn (yN L e p) (mate x) = fn L (mate (swp (mate e) (mate p) x));rw [xQ hl he hp hf];dsimp only;rw [ztv]
theorem vC (hl : L.length = 2 * k) (P : PermOn (fn L) (2 * k)) (he : e < 2 * k) (hp : p < 2 * k) (hf : fn L p = p) : PermOn (fn (yN L e p)) (2 * k) := by
 rw [xQ hl he hp hf];exact P.swap he hp
theorem jD (hl : L.length = 2 * k) (P : PermOn (fn L) (2 * k)) (he : e < 2 * k) (hp : p < 2 * k) (hf : fn L p = p) (ne : ¬ Cn (fn L) (2 * k) e p) : nV (yN L e p) + 1 = nV L := by
 unfold nV;rw [xP, hl, xQ hl he hp hf];exact zdd (vH _ _) he hp ne (vQ P he hp ne)
theorem zaq (hl : L.length = 2 * k) (P : PermOn (fn L) (2 * k)) (he : e < 2 * k) (hp : p < 2 * k) (hf : fn L p = p) (ne : ¬ Cn (phi L) (2 * k) (mate e) (mate p)) : nF (yN L e p) + 1 = nF L := by
 unfold nF;rw [xP, hl, j6 hl he hp hf];exact zdd (vH _ _) (zV he) (zV hp) ne (vQ P.phi (zV he) (zV hp) ne)
theorem zap (hl : L.length = 2 * k) (P : PermOn (fn L) (2 * k)) (he : e < 2 * k) (hp : p < 2 * k) (hf : fn L p = p) (nab : mate e ≠ mate p) (c : Cn (phi L) (2 * k) (mate e) (mate p)) : nF (yN L e p) = nF L + 1 := by
 have PF := P.phi;have ne := zpt PF (zV he) (zV hp) nab c;have P2 := PF.swap (zV he) (zV hp);have back : (fun x => (fun x => phi L (swp (mate e) (mate p) x)) (swp (mate e) (mate p) x)) = phi L := funext fun x => by
  dsimp only;rw [gI]
 have j := vQ P2 (zV he) (zV hp) ne;rw [back] at j;unfold nF;rw [xP, hl, j6 hl he hp hf];exact (zdd (vH _ _) (zV he) (zV hp) ne j).symm
theorem zaj (hl : L.length = 2 * k) (he : e < 2 * k) (hp : p < 2 * k) (hf : fn L p = p) : (∀ x y, Jn L x y -> Jn (yN L e p) x y) /\ Jn (yN L e p) e p := by
 have bl := xP L e p;have se : Jn (yN L e p) e p := by
  have := Jn.turn (ts := yN L e p) (x := e) (by lia);rw [xQ hl he hp hf] at this;dsimp only at this;rw [kO, hf] at this;exact this
 refine ⟨fun x y h => ?_, se⟩
 induction h with
 | refl x => exact .refl x
 | @turn x hx =>
  by_cases h1 : x = e
  ·have := Jn.turn (ts := yN L e p) (x := p) (by lia);rw [xQ hl he hp hf] at this;dsimp only at this;rw [zat] at this;rw [h1];exact .trans se this
  ·by_cases h2 : x = p
   ·rw [h2, hf]; exact .refl p
   ·have := Jn.turn (ts := yN L e p) (x := x) (by lia);rw [xQ hl he hp hf] at this;dsimp only at this;rw [qY h1 h2] at this;exact this
 | mate x => exact .mate x
 | symm _ ih => exact .symm ih
 | trans _ _ ih1 ih2 => exact .trans ih1 ih2
end
theorem zvf {ts : List Nat} {x y : Nat} (h : Jn ts x y) : Jn (two ts) x y := by
 induction h with
 | refl x => exact .refl x
 | @turn x hx =>
  have := Jn.turn (ts := two ts) (x := x) (by rw [jF]; lia);rw [jE hx] at this;exact this
 | mate x => exact .mate x
 | symm _ ih => exact .symm ih
 | trans _ _ ih1 ih2 => exact .trans ih1 ih2
theorem zwa : nV [] = 0 := rfl
theorem zwb : nF [] = 0 := rfl
theorem wH : PermOn (fn []) (2 * 0) := ⟨fun x hx => by lia, fun x y hx => by lia⟩
theorem zIc : Drw [] 0 := ⟨rfl, wH, fun x hx => by lia, .inl rfl⟩
theorem zFu : Drw [0, 1] 1 := by
 have e : two [] = [0, 1] := rfl;have h1 := zhg (ts := []) (m := 0) rfl wH;have h2 := zhh (ts := []) (m := 0) rfl wH;rw [zwa, e] at h1;rw [zwb, e] at h2;refine ⟨rfl, e ▸ kL (ts := []) (m := 0) rfl wH, fun x hx => ?_, .inr (by rw [h1, h2])⟩;have : x = 0 \/ x = 1 := by lia
 rcases this with rfl | rfl
 ·exact .refl 0
 ·exact .symm (.mate 0)
theorem zFt : Drw [1, 0] 1 := by
 have e : two [] = [0, 1] := rfl;have eb : yN [0, 1] 0 1 = [1, 0] := rfl;have P : PermOn (fn [0, 1]) (2 * 1) := e ▸ kL (ts := []) (m := 0) rfl wH;have v1 := zhg (ts := []) (m := 0) rfl wH;have v2 := zhh (ts := []) (m := 0) rfl wH;rw [zwa, e] at v1;rw [zwb, e] at v2;have ne : ¬ Cn (fn [0, 1]) (2 * 1) 0 1 := fun z => by
  have := (qJ (ts := []) (m := 0) rfl wH 0 1).mp z;lia
 have c : Cn (phi [0, 1]) (2 * 1) (mate 0) (mate 1) := (vL (ts := []) (m := 0) rfl wH _ _).mpr (.inr (.inl (by decide)));have h1 := jD (L := [0, 1]) (k := 1) (e := 0) (p := 1) rfl P (by decide) (by decide) rfl ne;have h2 := zap (L := [0, 1]) (k := 1) (e := 0) (p := 1) rfl P (by decide) (by decide) rfl (by decide) c;rw [eb] at h1 h2;refine ⟨rfl, eb ▸ vC (L := [0, 1]) (k := 1) (e := 0) (p := 1) rfl P (by decide) (by decide) rfl, fun x hx => ?_, .inr (by lia)⟩;have : x = 0 \/ x = 1 := by lia
 rcases this with rfl | rfl
 ·exact .refl 0
 ·exact .symm (.mate 0)
section
variable {ts : List Nat} {m e p : Nat}
theorem zFr (D : Drw ts m) (h1 : 1 <= m) (he : e < 2 * m) (hp : p = 2 * m \/ p = 2 * m + 1) : Drw (yN (two ts) e p) (m + 1) := by
 obtain ⟨hl, P, J, pl⟩ := D;have tl : (two ts).length = 2 * (m + 1) := by rw [jF]; lia
 have P0 := kL hl P;have hf : fn (two ts) p = p := qD (by lia);have v := zhg hl P;have f := zhh hl P;have hp' : p < 2 * (m + 1) := by lia
 have ne1 : ¬ Cn (fn (two ts)) (2 * (m + 1)) e p := fun z => by
  rcases (qJ hl P _ _).mp z with ⟨_, a, _⟩ | a <;> lia
 have mp : mate p = 2 * m \/ mate p = 2 * m + 1 := by unfold mate; split <;> lia
 have me := zV he;have ne2 : ¬ Cn (phi (two ts)) (2 * (m + 1)) (mate e) (mate p) := fun z => by
  rcases (vL hl P _ _).mp z with ⟨_, a, _⟩ | ⟨a, _⟩ | a <;> lia
 have h2 := jD tl P0 (show e < 2 * (m + 1) by lia) hp' hf ne1;have h3 := zaq tl P0 (show e < 2 * (m + 1) by lia) hp' hf ne2;obtain ⟨j1, j2⟩ := zaj tl (show e < 2 * (m + 1) by lia) hp' hf;refine ⟨by rw [xP]; exact tl, vC tl P0 (by lia) hp' hf, fun x hx => ?_, .inr (by lia)⟩;have old : ∀ x, x < 2 * m -> Jn (yN (two ts) e p) x 0 := fun x hx => j1 _ _ (zvf (J x hx));by_cases c : x < 2 * m
 ·exact old x c
 ·have pe : Jn (yN (two ts) e p) p 0 := .trans (.symm j2) (old e he);by_cases xp : x = p
  ·rw [xp]; exact pe
  ·have : x = mate p := by unfold mate; split <;> lia
   rw [this];exact .trans (.symm (.mate p)) pe
theorem zFq {g : Nat} (D : Drw ts m) (h1 : 1 <= m) (he : e < 2 * m) (hg : g < 2 * m) (hp : p = 2 * m \/ p = 2 * m + 1) (c : Cn (phi ts) (2 * m) (fn ts e) (fn ts g)) : Drw (yN (yN (two ts) e p) g (mate p)) (m + 1) := by
 obtain ⟨hl, P, J, pl⟩ := D;have tl : (two ts).length = 2 * (m + 1) := by rw [jF]; lia
 have P0 := kL hl P;have hf : fn (two ts) p = p := qD (by lia);have v := zhg hl P;have f := zhh hl P;have hp' : p < 2 * (m + 1) := by lia
 have ne1 : ¬ Cn (fn (two ts)) (2 * (m + 1)) e p := fun z => by
  rcases (qJ hl P _ _).mp z with ⟨_, a, _⟩ | a <;> lia
 have mp : (mate p = 2 * m \/ mate p = 2 * m + 1) /\ mate p ≠ p := ⟨by unfold mate; split <;> lia, zyo p⟩;have me := zV he;have mg := zV hg;have ne2 : ¬ Cn (phi (two ts)) (2 * (m + 1)) (mate e) (mate p) := fun z => by
  rcases (vL hl P _ _).mp z with ⟨_, a, _⟩ | ⟨a, _⟩ | a <;> lia
 have he' : e < 2 * (m + 1) := by lia
 have h2 := jD tl P0 he' hp' hf ne1;have h3 := zaq tl P0 he' hp' hf ne2;obtain ⟨j1, j2⟩ := zaj tl he' hp' hf;have tl1 : (yN (two ts) e p).length = 2 * (m + 1) := by rw [xP]; exact tl
 have P1 := vC tl P0 he' hp' hf;have hf1 : fn (yN (two ts) e p) (mate p) = mate p := by
  rw [xQ tl he' hp' hf];dsimp only;rw [qY (by lia) mp.2, qD (by lia)]
 have hg' : g < 2 * (m + 1) := by lia
 have hq' : mate p < 2 * (m + 1) := by lia
 have ne3 : ¬ Cn (fn (yN (two ts) e p)) (2 * (m + 1)) g (mate p) := fun z => by
  rw [xQ tl he' hp' hf] at z;rcases (vQ P0 he' hp' ne1 _ _).mp z with z | ⟨_, z⟩ | ⟨z, _⟩
  ·rcases (qJ hl P _ _).mp z with ⟨_, a, _⟩ | a <;> lia
  ·rcases (qJ hl P _ _).mp z with ⟨a, _, _⟩ | a
   ·lia
   ·exact mp.2 a
  ·rcases (qJ hl P _ _).mp z with ⟨_, a, _⟩ | a <;> lia
 have h4 := jD tl1 P1 hg' hq' hf1 ne3;have cc : Cn (phi (yN (two ts) e p)) (2 * (m + 1)) (mate g) (mate (mate p)) := by
  rw [j6 tl he' hp' hf, yK];refine (vQ P0.phi (zV he') (zV hp') ne2 _ _).mpr (.inr (.inl ⟨?_, ?_⟩))
  ·refine (vL hl P _ _).mpr (.inl ⟨mg, me, ?_⟩);have s1 := Cn.step (f := phi ts) (N := 2 * m) (x := mate e) me;have s2 := Cn.step (f := phi ts) (N := 2 * m) (x := mate g) mg;unfold phi at s1 s2;rw [yK] at s1 s2;exact .trans s2 (.trans (.symm c) (.symm s1))
  ·exact (vL hl P _ _).mpr (.inr (.inl ⟨hp, mp.1⟩))
 have h5 := zap tl1 P1 hg' hq' hf1 (by rw [yK]; lia) cc;obtain ⟨j3, j4⟩ := zaj tl1 hg' hq' hf1;refine ⟨by rw [xP]; exact tl1, vC tl1 P1 hg' hq' hf1, fun x hx => ?_, .inr (by lia)⟩;have old : ∀ x, x < 2 * m -> Jn (yN (yN (two ts) e p) g (mate p)) x 0 := fun x hx => j3 _ _ (j1 _ _ (zvf (J x hx)));by_cases c : x < 2 * m
 ·exact old x c
 ·have pe : Jn (yN (yN (two ts) e p) g (mate p)) p 0 := .trans (.symm (j3 _ _ j2)) (old e he);by_cases xp : x = p
  ·rw [xp]; exact pe
  ·have : x = mate p := by unfold mate; split <;> lia
   rw [this];exact .trans (.symm (.mate p)) pe
end
theorem zpe {f g τ : Nat -> Nat} {N : Nat} (PT : PermOn τ N) (P : PermOn f N) (h : ∀ x, x < N -> g (τ x) = τ (f x)) (x y : Nat) (hx : x < N) (hy : y < N) : Cn g N (τ x) (τ y) ↔ Cn f N x y := by
 constructor
 ·intro c;have := Cn.le (T := fun u v => u = v \/ ∃ x y, x < N /\ y < N /\ u = τ x /\ v = τ y /\ Cn f N x y) (fun _ => .inl rfl) (fun u v z => ?_) (fun u v z' h1 h2 => ?_) (fun u hu => ?_) c
  ·rcases this with e | ⟨x', y', a, b, e1, e2, c'⟩
   ·have := PT.inj _ _ hx hy e;rw [this];exact .refl _
   ·rw [PT.inj _ _ hx a e1, PT.inj _ _ hy b e2];exact c'
  ·rcases z with e | ⟨x', y', a, b, e1, e2, c'⟩
   ·exact .inl e.symm
   ·exact .inr ⟨y', x', b, a, e2, e1, .symm c'⟩
  ·rcases h1 with rfl | ⟨x', y', a, b, e1, e2, c'⟩
   ·exact h2
   ·rcases h2 with rfl | ⟨x2, y2, a2, b2, e3, e4, c2⟩
    ·exact .inr ⟨x', y', a, b, e1, e2, c'⟩
    ·have : y' = x2 := PT.inj _ _ b a2 (by rw [<- e2, <- e3]);subst this;exact .inr ⟨x', y2, a, b2, e1, e4, .trans c' c2⟩
  ·obtain ⟨w, hw, rfl⟩ := PT.sur hu;exact .inr ⟨w, f w, hw, P.lt w hw, rfl, h w hw, .step hw⟩
 ·intro c;have := Cn.le (T := fun x y => x = y \/ (x < N /\ y < N /\ Cn g N (τ x) (τ y))) (fun _ => .inl rfl) (fun u v z => ?_) (fun u v z' h1 h2 => ?_) (fun u hu => ?_) c
  ·rcases this with e | ⟨_, _, z⟩
   ·rw [e]; exact .refl _
   ·exact z
  ·rcases z with e | ⟨a, b, c'⟩
   ·exact .inl e.symm
   ·exact .inr ⟨b, a, .symm c'⟩
  ·rcases h1 with rfl | ⟨a, b, c'⟩
   ·exact h2
   ·rcases h2 with rfl | ⟨a2, b2, c2⟩
    ·exact .inr ⟨a, b, c'⟩
    ·exact .inr ⟨a, b2, .trans c' c2⟩
  ·refine .inr ⟨hu, P.lt u hu, ?_⟩;rw [<- h u hu];exact .step (PT.lt u hu)
theorem zrb {f g τ : Nat -> Nat} {N : Nat} (PT : PermOn τ N) (P : PermOn f N) (h : ∀ x, x < N -> g (τ x) = τ (f x)) : PermOn g N := by
 refine ⟨fun u hu => ?_, fun u v hu hv e => ?_⟩
 ·obtain ⟨x, hx, rfl⟩ := PT.sur hu;rw [h x hx];exact PT.lt _ (P.lt x hx)
 ·obtain ⟨x, hx, rfl⟩ := PT.sur hu;obtain ⟨y, hy, rfl⟩ := PT.sur hv;rw [h x hx, h y hy] at e;rw [P.inj x y hx hy (PT.inj _ _ (P.lt x hx) (P.lt y hy) e)]
theorem zFf {ts us : List Nat} {m : Nat} {τ : Nat -> Nat} (D : Drw ts m) (ul : us.length = 2 * m) (PT : PermOn τ (2 * m)) (hm : ∀ x, x < 2 * m -> τ (mate x) = mate (τ x)) (h : ∀ x, x < 2 * m -> fn us (τ x) = τ (fn ts x)) : Drw us m := by
 obtain ⟨hl, P, J, pl⟩ := D;have hphi : ∀ x, x < 2 * m -> phi us (τ x) = τ (phi ts x) := fun x hx => by
  show fn us (mate (τ x)) = τ (fn ts (mate x));rw [<- hm x hx, h _ (zV hx)]
 have hV : nV ts = nV us := by
  unfold nV;rw [hl, ul];exact zpj PT (vH _ _) (vH _ _) fun x y hx hy => zpe PT P h x y hx hy
 have hF : nF ts = nF us := by
  unfold nF;rw [hl, ul];exact zpj PT (vH _ _) (vH _ _) fun x y hx hy => zpe PT P.phi hphi x y hx hy
 refine ⟨ul, zrb PT P h, fun u hu => ?_, by rw [<- hV, <- hF]; exact pl⟩;have jn : ∀ {x y}, Jn ts x y -> (x < 2 * m ↔ y < 2 * m) /\ (x < 2 * m -> Jn us (τ x) (τ y)) := fun hj => by
  induction hj with
  | refl x => exact ⟨Iff.rfl, fun _ => .refl _⟩
  | @turn x hx =>
   have hx' : x < 2 * m := by lia
   refine ⟨⟨fun _ => P.lt x hx', fun _ => hx'⟩, fun _ => ?_⟩;rw [<- h x hx'];exact .turn (by rw [ul]; exact PT.lt x hx')
  | mate x =>
   refine ⟨⟨fun z => zV z, fun z => by have := zV z; rw [yK] at this; exact this⟩, fun hx => ?_⟩;rw [hm x hx];exact .mate _
  | symm _ ih => exact ⟨ih.1.symm, fun hx => .symm (ih.2 (ih.1.mpr hx))⟩
  | trans _ _ ih1 ih2 => exact ⟨ih1.1.trans ih2.1, fun hx => .trans (ih1.2 hx) (ih2.2 (ih1.1.mp hx))⟩
 obtain ⟨x, hx, rfl⟩ := PT.sur hu;obtain ⟨z, hz, e0⟩ := PT.sur (show 0 < 2 * m by lia);have a1 := (jn (J x hx)).2 hx;have a2 := (jn (J z hz)).2 hz;rw [e0] at a2;exact .trans a1 (.symm a2)
theorem Same.put84 {H H2 : Hp} {g : Addr} {o : HO} (s : Same H H2) (h : H g = none) : Same H (upd H2 g o) := fun b u e => by rw [zU (zP e h)]; exact s b u e
def ci (ts : List Nat) : List Int := ts.map fun (n : Nat) => (n : Int)
theorem xD (ts : List Nat) : (ci ts).length = ts.length := by unfold ci; rw [Qj]
theorem zeh {ts : List Nat} {i : Nat} (h : i < ts.length) : atI ((ci ts).map V.int) (i : Int) = some (.int (fn ts i : Nat)) := by
 refine yC (j := i) ?_;unfold ci fn;simp [h]
theorem zAa {α : Type} (xs : List α) (x : α) : atI (xs ++ [x]) (-1) = some x := by
 unfold atI ixN;rw [if_neg (by decide), Q3, List.length_singleton, if_pos (by lia)];show (xs ++ [x])[(-1 + ((xs.length + 1 : Nat) : Int)).toNat]? = some x;rw [show (-1 + ((xs.length + 1 : Nat) : Int)).toNat = xs.length by lia];simp
theorem zcn (l : List Nat) (x : Nat) : (ci (l ++ [x])).map V.int = (ci l).map V.int ++ [.int (x : Nat)] := by unfold ci; rw [Qu, Qu]; rfl
def wlk (f : Nat -> Nat) (s j : Nat) : List Nat := (List.range (j + 1)).map (itr f s)
theorem zjc (f : Nat -> Nat) (s j : Nat) : wlk f s (j + 1) = wlk f s j ++ [itr f s (j + 1)] := by
 unfold wlk;rw [Wv, Qu];rfl
theorem zsp (f : Nat -> Nat) (s j : Nat) : ∃ l, wlk f s j = l ++ [itr f s j] := by
 unfold wlk;rw [Wv, Qu];exact ⟨_, rfl⟩
theorem znk {f : Nat -> Nat} {s p : Nat} (h : Per f s p) : wlk f s (p - 1) = rnd f s := by
 unfold wlk rnd;rw [zbc h, show p - 1 + 1 = p by have := h.pos; lia]
def zvm : Sp := fun vs H Q _ => ∃ x : Nat, vs = [.int x] /\ Q (.int (mate x : Nat)) H
def znq (K : W.Frag) : Sp := fun vs H Q _ => ∃ (dr : Addr) (ts : List Nat) (s : Nat), vs = [.ref dr, .int s] /\ SqT K H dr ((ci ts).map V.int) /\ PermOn (fn ts) ts.length /\ s < ts.length /\ ts.length <= 16 /\ ∀ l H', Same H H' -> H l = none -> H' l = some (.lst ((ci (rnd (fn ts) s)).map V.int)) -> Q (.ref l) H'
def xH (ts : List Nat) : List Nat := (List.range ts.length).map (phi ts)
theorem w8 (ts : List Nat) : (xH ts).length = ts.length := by unfold xH; rw [Qj, Jk]
theorem vN {ts : List Nat} {x : Nat} (h : x < ts.length) : fn (xH ts) x = phi ts x := by unfold xH; show ((List.range ts.length).map (phi ts)).getD x 0 = _; simp [h]
def zgn (K : W.Frag) : Sp := fun vs H Q _ => ∃ (dr : Addr) (ts : List Nat) (m : Nat), vs = [.ref dr] /\ SqT K H dr ((ci ts).map V.int) /\ ts.length = 2 * m /\ m <= 8 /\ ∀ t H', Same H H' -> H' t = some (.tup ((ci (xH ts)).map V.int)) -> Q (.ref t) H'
section
variable {P : Program} {w : World} {K : W.Frag} {mg : Str -> Option Value} {base : Heap}
theorem zCb : zL ["end"] ["end"] (zE zry) := ⟨rfl, rfl, rfl, by decide +kernel, rfl, by decide +kernel, by decide +kernel⟩
theorem zDz (S : Src K mg "mate_of" zry ["end"]) : Def P w K mg base 1 "mate_of" ["end"] zvm := by
 refine S.def zCb (fun vs H Q E h => ?_) (fun f cdv A outer s H vs Q E hr h => ?_)
 ·obtain ⟨_, rfl, _⟩ := h; rfl
 ·obtain ⟨x, rfl, q⟩ := h;refine ⟨_, zG (zO (kZ (yF qL (zQ wJ (pv 0) zF) zF (yQ _)) (zQ xN (pv 0) zF) (zQ zbd (pv 0) zF))), ?_⟩;refine ⟨_, rfl, _, _, rfl, rfl, (by show (0 : Int) < 2; decide), rfl, _, rfl, ?_⟩;by_cases c : x % 2 = 0
  ·rw [Q2 (show V.int ((x : Int) % 2) = V.int 0 by rw [show (x : Int) % 2 = 0 by lia])];refine jP ⟨_, rfl, _, _, rfl, rfl, ?_⟩;have : mate x = x + 1 := by unfold mate; rw [if_pos c]
   rw [this] at q;exact q
  ·rw [Q8 (show ¬ V.int ((x : Int) % 2) = V.int 0 from fun z => by injection z with z; lia)];refine wL ⟨_, rfl, _, _, rfl, rfl, ?_⟩;have : mate x = x - 1 := by unfold mate; rw [if_neg c]
   rw [this, Int.natCast_sub (by lia)] at q;exact q
theorem scRound : zL ["drawing", "start", "ends"] ["drawing", "start"] (zE zht) := ⟨rfl, rfl, rfl, by decide +kernel, rfl, by decide +kernel, by decide +kernel⟩
theorem zzk (S : Src K mg "round_from" zht ["drawing", "start"]) : Def P w K mg base 1 "round_from" ["drawing", "start"] (znq K) := by
 refine S.def scRound (fun vs H Q E h => ?_) (fun f cdv A outer s H vs Q E hr h => ?_)
 ·obtain ⟨_, _, _, rfl, _⟩ := h; rfl
 ·obtain ⟨dr, ts, st, rfl, hd, PT, hs, n16, q⟩ := h;refine ⟨_, zD (zJ (i := 2) scRound.nd rfl (Or.inl rfl) (xM (zA (pv 1) zB)))
   (zD (kX PassesOwn.never (yF zih (yO (yI K) (pv 0) (yO (yS K) (pv 2) (zec kG zF) (fun _ _ => rfl)) (fun _ _ => rfl)) (pv 1) (yQ _))
    (zG (wV (k5 PySem.F.plainAttrs_list PySem.F.slot_list_append PySem.F.type_list_append zfc (pv 2) (zA (yO (yI K) (pv 0) (yO (yS K) (pv 2) (zec kG zF) (fun _ _ => rfl)) (fun _ _ => rfl)) zB)))))
   (zG (zO (pv 2)))), ?_⟩
  obtain ⟨p, pN, hp⟩ := PT.per hs;have pp := hp.pos;refine ⟨_, rfl, by show 1 <= sizeLine; decide, fun l hl => ?_⟩;have s0 := Same.new (o := HO.lst [.int (st : Int)]) hl;have h0 : (upd H l (.lst [.int (st : Int)])) l = some (.lst ((ci (wlk (fn ts) st 0)).map V.int)) := zC;generalize upd H l (.lst [.int (st : Int)]) = H0 at s0 h0 ⊢;dsimp only [List.set];refine ⟨fun m σ H' => ∃ j, m + j = p /\ j + 1 <= p /\ σ = [some (.ref dr), some (.int (st : Int)), some (.ref l)] /\ Same H H' /\ H' l = some (.lst ((ci (wlk (fn ts) st j)).map V.int)), ⟨p, 0, rfl, by lia, rfl, s0, h0⟩, ?_⟩;rintro m σ H' ⟨j, mj, jp, rfl, sm, hl'⟩;have lt := PT.itr_lt hs j;obtain ⟨pre, ew⟩ := zsp (fn ts) st j;have eL : (ci (wlk (fn ts) st j)).map V.int = (ci pre).map V.int ++ [.int (itr (fn ts) st j : Nat)] := by rw [ew, zcn]
  have la : atI ((ci (wlk (fn ts) st j)).map V.int) (-1) = some (.int (itr (fn ts) st j : Nat)) := by rw [eL]; exact zAa _ _
  have hd' := sqT sm hd;refine ⟨_, rfl, _, rfl, _, rfl, l, _, _, _, rfl, rfl, SqL.of hl', la, dr, _, _, _, rfl, rfl, hd', zeh lt, _, rfl, rfl, _, rfl, ?_⟩;have e1 : fn ts (itr (fn ts) st j) = itr (fn ts) st (j + 1) := rfl;rw [e1];by_cases c : j + 1 = p
  ·rw [Q2 (show V.int ((itr (fn ts) st (j + 1) : Nat) : Int) = V.int (st : Int) by rw [c, hp.back])];refine wL ⟨_, rfl, q l H' sm hl ?_⟩;rw [hl', show j = p - 1 by lia, znk hp]
  ·have ne := hp.no (j + 1) (by lia) (by lia);rw [Q8 (show ¬ V.int ((itr (fn ts) st (j + 1) : Nat) : Int) = V.int (st : Int) from fun z => by injection z with z; exact ne (by lia))];refine jP ⟨fun σ' H2 => σ' = [some (.ref dr), some (.int (st : Int)), some (.ref l)] /\ Same H H2 /\ H2 l = some (.lst ((ci (wlk (fn ts) st (j + 1))).map V.int)), ?_, ?_⟩
   ·rintro σ' H2 ⟨rfl, s2, h2⟩;exact ⟨m - 1, by lia, j + 1, by lia, by lia, rfl, s2, h2⟩
   ·refine ⟨_, rfl, .inl ⟨rfl, _, SqL.of hl'⟩, _, rfl, _, rfl, _, rfl, l, _, _, _, rfl, rfl, SqL.of hl', la, dr, _, _, _, rfl, rfl, hd', zeh lt, l, _, _, rfl, rfl, hl', ?_, ?_⟩
    ·rw [Qj, xD];unfold wlk;rw [Qj, Jk];exact Js (show j + 1 <= 100 by lia) (by decide)
    ·refine ⟨rfl, Same.put84 sm hl, ?_⟩;rw [zC, zjc, zcn, e1]
theorem zxu : zL ["drawing"] ["drawing"] (zE zhv) := ⟨rfl, rfl, rfl, by decide +kernel, rfl, by decide +kernel, by decide +kernel⟩
theorem zGp : (["end", "drawing"] : List Str).Nodup := by decide +kernel
theorem zzn (T : Txt K mg) (S : Src K mg "other_one" zhv ["drawing"]) (DM : Def P w K mg base 1 "mate_of" ["end"] zvm) : Def P w K mg base 2 "other_one" ["drawing"] (zgn K) := by
 refine S.def zxu (fun vs H Q E h => ?_) (fun f cdv A outer s H vs Q E hr h => ?_)
 ·obtain ⟨_, _, _, rfl, _⟩ := h; rfl
 ·obtain ⟨dr, ts, m, rfl, hd, hl, m8, q⟩ := h;refine ⟨_, zG (zO (zY (yG K) rfl T.tuple yH (zA (yT (N' := ["end", "drawing"]) (fr := [none, some 0]) (zS (by rfl)) rfl (xY rfl T.range (zA (zN (yL K) (by rfl) T.len PySem.boot_len (zA (pv 0) zB)) zB))
   (fun _ _ _ _ => zI (i := 0) zGp rfl (Or.inl rfl) (Or.inr rfl)) (fun _ _ _ _ => xA) (fun _ _ _ _ => yO (r := zkb K) (yI K) (pv 1) (zH DM hr rfl (zA (pv 0) zB)) (fun _ _ => rfl))) zB))), ?_⟩
  refine ⟨_, rfl, dr, _, rfl, .inr hd, _, rfl, ?_, ?_, ?_⟩
  ·lia
  ·rw [Qj, xD]; lia
  rw [Qj, xD, Q4];refine x8 (lo := 0) (n := ts.length) (fun σ => ∃ v, σ = [v, some (.ref dr)]) (fun i ys H' => H' = H /\ ys = (ci ((xH ts).take i)).map V.int) ⟨_, rfl⟩ ⟨rfl, rfl⟩ (Js (show ts.length <= 100 by lia) (by decide)) ?_ ?_
  ·rintro i ys σ H' N hi ⟨u, rfl⟩ ⟨rfl, rfl⟩ hN;rw [show (0 : Int) + (i : Int) = (i : Int) by lia];dsimp only [yB, List.set];have ml := zV (m := m) (x := i) (by lia);refine zbk ⟨_, rfl, _, rfl, i, rfl, dr, _, _, _, rfl, rfl, hd, zeh (by lia), ?_⟩;refine hN _ _ _ ⟨_, rfl⟩ ⟨rfl, ?_⟩ (by simp);have e : (xH ts)[i]? = some (fn ts (mate i)) := by unfold xH phi; simp [hi]
   rw [zM e, zcn]
  ·rintro ys H' ⟨rfl, rfl⟩ p hp;rw [W3 (by rw [w8]; exact Qw _)];exact ⟨p, _, rfl, .inl ⟨SqL.of zC, fun t ht => q t _ ((Same.new hp).trans (Same.new ht)) zC⟩⟩
end
noncomputable def rds (f : Nat -> Nat) (N : Nat) : List (List Nat) := if N = 0 then [[]] else (wA N (Cn f N)).map (rnd f)
theorem vM {f : Nat -> Nat} {N : Nat} (h : 0 < N) : rds f N = (wA N (Cn f N)).map (rnd f) := by unfold rds; rw [if_neg (by lia)]
theorem zfd {f g : Nat -> Nat} {N s : Nat} (P : PermOn f N) (h : ∀ x, x < N -> f x = g x) (hs : s < N) : ∀ k, itr f s k = itr g s k
 | 0 => rfl
 | k + 1 => by
  show f (itr f s k) = g (itr g s k);rw [<- zfd P h hs k, h _ (P.itr_lt hs k)]
theorem zqb {f g : Nat -> Nat} {N s : Nat} (P : PermOn f N) (h : ∀ x, x < N -> f x = g x) (hs : s < N) : rnd f s = rnd g s := by
 obtain ⟨p, _, hp⟩ := P.per hs;have e := zfd P h hs;have hp2 : Per g s p := ⟨hp.pos, by rw [<- e]; exact hp.back, fun i a b => by rw [<- e]; exact hp.no i a b⟩;unfold rnd;rw [zbc hp, zbc hp2];exact Jm fun i _ => e i
theorem q9 {f g : Nat -> Nat} {N : Nat} (P : PermOn f N) (h : ∀ x, x < N -> f x = g x) : rds f N = rds g N := by
 unfold rds;split
 ·rfl
 ·rw [wS (R' := Cn g N) fun x y _ _ => Cn.congr h x y];exact Jm fun s hs => zqb P h (mem_reps.mp hs).1
theorem zvs {f : Nat -> Nat} {N s : Nat} (P : PermOn f N) (hs : s < N) : ∃ l, rnd f s = s :: l := by
 obtain ⟨p, _, hp⟩ := P.per hs;unfold rnd;rw [zbc hp, show p = p - 1 + 1 by have := hp.pos; lia, List.range_succ_eq_map, Qm];exact ⟨_, rfl⟩
theorem zxy {f : Nat -> Nat} {N s : Nat} (P : PermOn f N) (hs : s < N) : (rnd f s).length <= N := by
 obtain ⟨p, pN, hp⟩ := P.per hs;unfold rnd;rw [zbc hp, Qj, Jk];exact pN
def xG (rows : List (List Nat)) (e : Nat) : Nat := rows.findIdx fun r => decide (e ∈ r)
theorem qU {f : Nat -> Nat} {N : Nat} (P : PermOn f N) {i e : Nat} {r : List Nat} (h : (rds f N)[i]? = some r) (he : e ∈ r) : xG (rds f N) e = i := by
 by_cases c : N = 0
 ·have : rds f N = [[]] := by unfold rds; rw [if_pos c]
  rw [this] at h;cases i with
  | zero => cases h; exact nomatch he
  | succ i => cases h
 ·rw [vM (by lia)] at h ⊢;have il := (Qf.mp h).1;unfold xG;have hle : ((wA N (Cn f N)).map (rnd f)).findIdx (fun r => decide (e ∈ r)) <= i := by
   refine Nat.le_of_not_lt fun hlt => ?_;have nf := List.not_of_lt_findIdx hlt;have er := (Qf.mp h).2;rw [er] at nf;exact Wj nf he
  have hp : ((wA N (Cn f N)).map (rnd f)).findIdx (fun r => decide (e ∈ r)) < ((wA N (Cn f N)).map (rnd f)).length := by lia
  have hm := Jf (List.findIdx_getElem (w := hp));generalize ((wA N (Cn f N)).map (rnd f)).findIdx (fun r => decide (e ∈ r)) = j at hle hp hm;rw [Qj] at hp il;have ei : rnd f (wA N (Cn f N))[i] = r := by
   have := (Qf.mp h).2;rw [List.getElem_map] at this;exact this
  rw [List.getElem_map] at hm;have m1 : (wA N (Cn f N))[i] ∈ wA N (Cn f N) := Wc il;have m2 : (wA N (Cn f N))[j] ∈ wA N (Cn f N) := Wc hp;rw [<- ei] at he;have r1 := (wO P (mem_reps.mp m1).1).mp he;have r2 := (wO P (mem_reps.mp m2).1).mp hm;have eq := qV (vH f N) m2 m1 (.trans r2 (.symm r1));by_cases cc : j = i
  ·exact cc
  ·exfalso;have nd := List.pairwise_iff_getElem.mp (Wu.mp (gM N (Cn f N))) j i hp il (by lia);exact nd eq
theorem zna {f : Nat -> Nat} {N : Nat} (P : PermOn f N) {x : Nat} (hx : x < N) : ∃ (i : Nat) (r : List Nat), (rds f N)[i]? = some r /\ x ∈ r := by
 obtain ⟨s, _, h2, h3⟩ := kH (N := N) (vH f N) hx;obtain ⟨i, hi, e⟩ := List.getElem_of_mem h3;refine ⟨i, rnd f s, ?_, (wO P (mem_reps.mp h3).1).mpr (.symm h2)⟩;rw [vM (by lia), Jz, Q9 hi, e];rfl
theorem zjx {f : Nat -> Nat} {N : Nat} (P : PermOn f N) {x : Nat} (hx : x < N) : xG (rds f N) x < (rds f N).length := by
 obtain ⟨i, r, h, hr⟩ := zna P hx;rw [qU P h hr];exact (Qf.mp h).1
theorem zcx {f : Nat -> Nat} {N : Nat} (P : PermOn f N) {x y : Nat} (hx : x < N) (c : Cn f N x y) : xG (rds f N) x = xG (rds f N) y := by
 obtain ⟨i, r, h, hr⟩ := zna P hx;have hy : y ∈ r := by
  rw [vM (by lia), Jz] at h;cases e : (wA N (Cn f N))[i]? with
  | none => rw [e] at h; cases h
  | some s =>
   rw [e] at h;have e2 : rnd f s = r := Option.some.inj h;have hs := (mem_reps.mp (Jq e)).1;rw [<- e2] at hr ⊢;exact (wO P hs).mpr (.trans ((wO P hs).mp hr) c)
 rw [qU P h hr, qU P h hy]
def wF (rows : List (List Nat)) (m : Nat) : List (Int × Int) := (List.range m).map fun k => wD ((xG rows (2 * k) : Int), (xG rows (2 * k + 1) : Int))
theorem xO (rows : List (List Nat)) (m : Nat) : (wF rows m).length = m := by unfold wF; rw [Qj, Jk]
theorem zym {n a b : Int} (ha : 0 <= a) (ha' : a < n) (hb : 0 <= b) (hb' : b < n) : InN n (wD (a, b)) := by unfold wD InN; split <;> exact ⟨by assumption, by assumption, by assumption, by assumption⟩
theorem zgj {ts : List Nat} {m : Nat} (hl : ts.length = 2 * m) (P : PermOn (fn ts) (2 * m)) : ∀ p ∈ wF (rds (fn ts) (2 * m)) m, InN ((rds (fn ts) (2 * m)).length : Int) p := fun p hp => by
 obtain ⟨k, hk, rfl⟩ := Ql.mp hp;have hk' := Q0.mp hk;have h1 := zjx P (x := 2 * k) (by lia);have h2 := zjx P (x := 2 * k + 1) (by lia);exact zym (by lia) (by lia) (by lia) (by lia)
theorem zbz {ts : List Nat} {m : Nat} (D : Drw ts m) : 1 <= (rds (fn ts) (2 * m)).length /\ (rds (fn ts) (2 * m)).length + (rds (phi ts) (2 * m)).length = m + 2 := by
 by_cases c : m = 0
 ·subst c;exact ⟨Qw _, rfl⟩
 ·have pl := D.plane;unfold nV nF at pl;rw [D.len] at pl;rw [vM (by lia), vM (by lia), Qj, Qj];obtain ⟨r, _, _, h3⟩ := kH (N := 2 * m) (vH (fn ts) (2 * m)) (show 0 < 2 * m by lia);have := List.length_pos_of_mem h3;exact ⟨this, pl.resolve_left c⟩
theorem zjz {ts : List Nat} {m : Nat} (D : Drw ts m) : 1 <= (rds (phi ts) (2 * m)).length := by
 by_cases c : m = 0
 ·subst c;exact Qw _
 ·rw [vM (by lia), Qj];obtain ⟨r, _, _, h3⟩ := kH (N := 2 * m) (vH (phi ts) (2 * m)) (show 0 < 2 * m by lia);exact List.length_pos_of_mem h3
theorem zcp {ts : List Nat} {m : Nat} (D : Drw ts m) : (wZ ((rds (fn ts) (2 * m)).length : Int) (hdF (wF (rds (fn ts) (2 * m)) m) (ups ((rds (fn ts) (2 * m)).length : Int)) (ups (m : Int)))).length = 1 := by
 have P := D.perm;obtain ⟨n1, _⟩ := zbz D;have hin := zgj D.len P;have tl := xO (rds (fn ts) (2 * m)) m;have G := vF (n := ((rds (fn ts) (2 * m)).length : Int)) (ps := wF (rds (fn ts) (2 * m)) m) (ks := ups (m : Int)) (by lia) hin (fun k hk => by
  have := mem_ups.mp hk;rw [tl];exact this)
 generalize hdF (wF (rds (fn ts) (2 * m)) m) (ups ((rds (fn ts) (2 * m)).length : Int)) (ups (m : Int)) = hs at G;have step : ∀ {x y}, Jn ts x y -> (x < 2 * m ↔ y < 2 * m) /\ (x < 2 * m -> at0 hs (xG (rds (fn ts) (2 * m)) x) = at0 hs (xG (rds (fn ts) (2 * m)) y)) := fun h => by
  induction h with
  | refl x => exact ⟨Iff.rfl, fun _ => rfl⟩
  | @turn x hx =>
   have hx' : x < 2 * m := by have := D.len; lia
   exact ⟨⟨fun _ => P.lt x hx', fun _ => hx'⟩, fun _ => by rw [zcx P hx' (.step hx')]⟩
  | mate x =>
   refine ⟨⟨fun z => zV z, fun z => by have := zV z; rw [yK] at this; exact this⟩, fun hx => ?_⟩;have jn := G.join ((x / 2 : Nat) : Int) (mem_ups.mpr ⟨by lia, by lia⟩);have et : yE (wF (rds (fn ts) (2 * m)) m) ((x / 2 : Nat) : Int) = wD ((xG (rds (fn ts) (2 * m)) (2 * (x / 2)) : Int), (xG (rds (fn ts) (2 * m)) (2 * (x / 2) + 1) : Int)) := by
    unfold yE wF;rw [Q4, Qd, Jz, List.getElem?_range (by lia)];rfl
   rw [et] at jn;have jn2 : at0 hs (xG (rds (fn ts) (2 * m)) (2 * (x / 2))) = at0 hs (xG (rds (fn ts) (2 * m)) (2 * (x / 2) + 1)) := by
    rcases wW ((xG (rds (fn ts) (2 * m)) (2 * (x / 2)) : Int), (xG (rds (fn ts) (2 * m)) (2 * (x / 2) + 1) : Int)) with ⟨e1, e2⟩ | ⟨e1, e2⟩
    ·rw [e1, e2] at jn; exact jn
    ·rw [e1, e2] at jn; exact jn.symm
   unfold mate;by_cases c : x % 2 = 0
   ·rw [if_pos c];rw [show 2 * (x / 2) = x by lia] at jn2;exact jn2
   ·rw [if_neg c];rw [show 2 * (x / 2) + 1 = x by lia, show 2 * (x / 2) = x - 1 by lia] at jn2;exact jn2.symm
  | symm _ ih => exact ⟨ih.1.symm, fun hx => (ih.2 (ih.1.mpr hx)).symm⟩
  | trans _ _ ih1 ih2 => exact ⟨ih1.1.trans ih2.1, fun hx => (ih1.2 hx).trans (ih2.2 (ih1.1.mp hx))⟩
 have z0 : at0 hs 0 = 0 := by have := G.le 0 (by lia) (by lia); lia
 have all0 : ∀ i : Int, 0 <= i -> i < ((rds (fn ts) (2 * m)).length : Int) -> at0 hs i = 0 := fun i i0 il => by
  by_cases c : m = 0
  ·have : (rds (fn ts) (2 * m)).length = 1 := by rw [c]; rfl
   rw [show i = 0 by lia];exact z0
  ·have get : ∀ i : Nat, i < (rds (fn ts) (2 * m)).length -> ∃ s, s < 2 * m /\ xG (rds (fn ts) (2 * m)) s = i := fun i hi => by
    have e : (rds (fn ts) (2 * m))[i]? = some (rds (fn ts) (2 * m))[i] := Q9 hi;generalize (rds (fn ts) (2 * m))[i] = r at e;have e' := e;rw [vM (by lia), Jz] at e';cases es : (wA (2 * m) (Cn (fn ts) (2 * m)))[i]? with
    | none => rw [es] at e'; cases e'
    | some s =>
     rw [es] at e';have e2 : rnd (fn ts) s = r := Option.some.inj e';have hs' := (mem_reps.mp (Jq es)).1;refine ⟨s, hs', qU P e ?_⟩;rw [<- e2];exact (wO P hs').mpr (.refl s)
   obtain ⟨s, hs', e1⟩ := get i.toNat (by lia);obtain ⟨s0, hs0, e0⟩ := get 0 (by lia);have a1 := (step (D.joined s hs')).2 hs';have a2 := (step (D.joined s0 hs0)).2 hs0;rw [e1, show ((i.toNat : Nat) : Int) = i by lia] at a1;rw [e0] at a2;rw [a1, <- a2];exact z0
 have eh : wZ ((rds (fn ts) (2 * m)).length : Int) hs = [0] := by
  refine gN (vS (((xS _).filter _).imp fun h => by lia) (by simp) fun i => ?_) (zox _ _) (by simp);rw [mem_hpts, Qx];constructor
  ·rintro ⟨⟨a, b⟩, c⟩;rw [all0 i a b] at c;exact c.symm
  ·rintro rfl;exact ⟨⟨by lia, by lia⟩, z0⟩
 rw [eh];rfl
abbrev zlm (H0 H : Hp) : V -> List Nat -> Prop := fun v r => PartAt H0 H v (ci r)
def kP (K : W.Frag) : Sp := fun vs H Q _ => ∃ (dr : Addr) (ts : List Nat), vs = [.ref dr] /\ SqT K H dr ((ci ts).map V.int) /\ PermOn (fn ts) ts.length /\ ts.length <= 16 /\ ∀ l xs H', Same H H' -> H l = none -> H' l = some (.lst xs) -> Paired (zlm H H') xs (rds (fn ts) ts.length) -> Q (.ref l) H'
def zgo (K : W.Frag) : Sp := fun vs H Q _ => ∃ (dr : Addr) (ts : List Nat) (m : Nat), vs = [.ref dr] /\ SqT K H dr ((ci ts).map V.int) /\ PermOn (fn ts) (2 * m) /\ ts.length = 2 * m /\ m <= 8 /\ ∀ l xs H', Same H H' -> H l = none -> H' l = some (.lst xs) -> Paired (zlm H H') xs (rds (phi ts) (2 * m)) -> Q (.ref l) H'
theorem qG {H H' : Hp} {l : Addr} (s : Same H H') (h : H' l = none) : H l = none := by
 cases e : H l with
 | none => rfl
 | some o => have := s l o e; rw [h] at this; cases this
theorem ztg {H0 H1 H : Hp} {xs : List V} {rows : List (List Nat)} (h : Paired (zlm H1 H) xs rows) (s : Same H0 H1) : Paired (zlm H0 H) xs rows := L2.Paired.mapP h fun _ _ q => by
 obtain ⟨a, h1, h2, h3⟩ := q;exact ⟨a, h1, qG s h2, h3⟩
theorem vT {H0 H H' : Hp} {xs : List V} {rows : List (List Nat)} (h : Paired (zlm H0 H) xs rows) (e : Same H H') : Paired (zlm H0 H') xs rows := L2.Paired.mapP h fun _ _ q => PartAt.same q e
theorem zbe {n : Nat} (h : n <= 300) : n < sizeLine := Js h (by decide)
theorem mem_ci {r : List Nat} {x : Int} : x ∈ ci r ↔ ∃ n : Nat, n ∈ r /\ (n : Int) = x := by unfold ci; rw [Ql]
section
variable {P : Program} {w : World} {K : W.Frag} {mg : Str -> Option Value} {base : Heap}
theorem scRounds : zL ["drawing", "rounds"] ["drawing"] (zE zbs) := ⟨rfl, rfl, rfl, by decide +kernel, rfl, by decide +kernel, by decide +kernel⟩
theorem zHq : (["ends"] : List Str).Nodup := by decide +kernel
theorem zup (T : Txt K mg) (S : Src K mg "rounds_of" zbs ["drawing"]) (DR : Def P w K mg base 1 "round_from" ["drawing", "start"] (znq K)) : Def P w K mg base 2 "rounds_of" ["drawing"] (kP K) := by
 refine S.def scRounds (fun vs H Q E h => ?_) (fun f cdv A outer s H vs Q E hr h => ?_)
 ·obtain ⟨_, _, rfl, _⟩ := h; rfl
 ·obtain ⟨dr, ts, rfl, hd, PT, n16, q⟩ := h;refine ⟨_, zD (wU (kI (kW (pv 0) (fun _ => rfl))) (zG (zO (xM (zA (xM zB) zB)))) xB)
   (zD (v9 (i := 1) scRounds.nd rfl (Or.inl rfl) (N' := ["end", "drawing"]) (fr := [none, some 0]) (zS (by rfl)) rfl (xY rfl T.range (zA (zN (yL K) (by rfl) T.len PySem.boot_len (zA (pv 0) zB)) zB))
    (fun _ _ _ _ => zI (i := 0) zGp rfl (Or.inl rfl) (Or.inr rfl)) (fun _ _ _ _ => xA) (fun _ _ _ _ => zH DR hr rfl (zA (pv 1) (zA (pv 0) zB))))
   (zG (zO (yT (N' := ["ends"]) (fr := [none]) (zS (by rfl)) rfl (yM K .l (pv 1)) (fun _ _ _ _ => zI (i := 0) zHq rfl (Or.inl rfl) (Or.inr rfl))
    (fun _ _ _ _ => y9 (yF qL (yO (r := zEn K) (yS K) (pv 0) zF (fun _ _ => rfl)) (zN (r := zvt K) (zmo rfl) (by rfl) T.min zfn (zA (pv 0) zB)) (yQ _))) (fun _ _ _ _ => pv 0))))), ?_⟩
  refine ⟨_, rfl, _, .inr (.inl ⟨_, hd, rfl⟩), ?_⟩;by_cases n0 : ts.length = 0
  ·have : ts = [] := Wl.mp n0;subst this;refine jP ⟨Jj _, fun e he => ⟨by show 1 <= sizeLine; decide, fun l hl => ?_⟩⟩;have s1 := Same.new (o := HO.lst []) he;have s2 := Same.new (o := HO.lst [.ref e]) hl;exact q l _ _ (s1.trans s2) (qG s1 hl) zC (.cons ⟨e, rfl, he, s2 _ _ zC⟩ .nil)
  ·have ez : (!((ci ts).map V.int).isEmpty) = true := by
    cases ts with
    | nil => exact absurd rfl n0
    | cons a l => rfl
   rw [ez];refine wL ⟨_, rfl, dr, _, rfl, .inr hd, _, rfl, ?_, ?_, ?_⟩
   ·lia
   ·rw [Qj, xD]; lia
   rw [Qj, xD, Q4];refine x8 (lo := 0) (n := ts.length) (fun σ => ∃ v, σ = [v, some (.ref dr)]) (fun i ys H' => Same H H' /\ Paired (zlm H H') ys ((List.range i).map (rnd (fn ts)))) ⟨_, rfl⟩ ⟨Same.refl _, .nil⟩ (zbe (by lia)) ?_ ?_
   ·rintro i ys σ H' N hi ⟨u, rfl⟩ ⟨sm, hy⟩ hN;rw [show (0 : Int) + (i : Int) = (i : Int) by lia];dsimp only [yB, List.set];refine zbk ⟨_, rfl, _, rfl, dr, ts, i, rfl, sqT sm hd, PT, hi, n16, fun l H2 s2 hl hl2 => ?_⟩;refine hN _ _ _ ⟨_, rfl⟩ ⟨sm.trans s2, ?_⟩ (by simp);rw [Wv, Qu];exact L2.Paired.snoc (vT hy s2) ⟨l, rfl, qG sm hl, hl2⟩
   rintro ys H1 ⟨s1, hy⟩ g hg;have s2 := Same.new (o := HO.lst ys) hg;have hy2 := vT hy s2;have hg2 : (upd H1 g (.lst ys)) g = some (.lst ys) := zC;have s12 := s1.trans s2;generalize upd H1 g (.lst ys) = H2 at s2 hy2 hg2 s12 ⊢;dsimp only [List.set];have yl := Paired.length hy2;rw [Qj, Jk] at yl;refine ⟨_, rfl, g, rfl, ⟨_, SqL.of hg2⟩, yX (k := .l) (a := g) (xs := ys) (fun σ => ∃ v, σ = [v]) (fun i zs H' => H' = H2 /\ Paired (zlm H H2) zs (((List.range i).filter (zef (Cn (fn ts) ts.length))).map (rnd (fn ts)))) ⟨_, rfl⟩ ⟨rfl, .nil⟩ (zbe (by lia)) (fun i zs H' _ z => SqL.of (by rw [z.1]; exact hg2)) ?_ ?_⟩
   ·rintro i x zs σ H' N hx ⟨u, rfl⟩ ⟨rfl, hz⟩ hN;obtain ⟨r, er, a, rfl, ha0, ha⟩ := Paired.at hy2 hx;have il : i < ts.length := by have := (Qf.mp hx).1; lia
    have e2 : r = rnd (fn ts) i := by
     rw [Jz, List.getElem?_range il] at er;exact (Option.some.inj er).symm
    subst e2;obtain ⟨l, el⟩ := zvs PT il;dsimp only [yB, List.set];have a0 : atI ((ci (rnd (fn ts) i)).map V.int) 0 = some (.int (i : Int)) := by rw [el]; exact yC (j := 0) rfl
    refine ⟨_, rfl, a, _, _, _, rfl, rfl, SqL.of ha, a0, _, rfl, a, _, rfl, SqL.of ha, by rw [el]; exact List.cons_ne_nil _ _, fun m hm hle => ⟨rfl, _, rfl, ?_⟩⟩;have key : decide (V.int (i : Int) = V.int m) = zef (Cn (fn ts) ts.length) i := by
     rw [Jp, Qc, isRep_iff];obtain ⟨k, hk, rfl⟩ := mem_ci.mp hm;constructor
     ·intro z y hy' c;have e : (i : Int) = (k : Int) := by injection z
      have := hle (y : Int) (mem_ci.mpr ⟨y, (wO PT il).mpr c, rfl⟩);lia
     ·intro z;have h1 := hle (i : Int) (mem_ci.mpr ⟨i, (wO PT il).mpr (.refl i), rfl⟩);have h2 : ¬ k < i := fun lt => z k lt ((wO PT il).mp hk);rw [show (k : Int) = (i : Int) by lia]
    rw [key];refine zdt (fun z => ⟨_, rfl, ?_⟩) (fun z => ?_)
    ·refine hN _ _ _ ⟨_, rfl⟩ ⟨rfl, ?_⟩ (by simp);rw [Wv, Wz, Wq z, Qu];exact L2.Paired.snoc hz ⟨a, rfl, ha0, ha⟩
    ·refine hN _ _ _ ⟨_, rfl⟩ ⟨rfl, ?_⟩ (by simp);rw [Wv, Wz, Wh z, List.filter_nil, Jw];exact hz
   ·rintro zs H' ⟨rfl, hz⟩ l hl;rw [yl] at hz;have s3 := Same.new (o := HO.lst zs) hl;refine q l zs _ (s12.trans s3) (qG s12 hl) zC ?_;rw [vM (by lia)];exact vT hz s3
theorem zxv : zL ["drawing"] ["drawing"] (zE zhx) := ⟨rfl, rfl, rfl, by decide +kernel, rfl, by decide +kernel, by decide +kernel⟩
theorem zzp (S : Src K mg "lands_of" zhx ["drawing"]) (DR : Def P w K mg base 2 "rounds_of" ["drawing"] (kP K)) (DO : Def P w K mg base 2 "other_one" ["drawing"] (zgn K)) : Def P w K mg base 3 "lands_of" ["drawing"] (zgo K) := by
 refine S.def zxv (fun vs H Q E h => ?_) (fun f cdv A outer s H vs Q E hr h => ?_)
 ·obtain ⟨_, _, _, rfl, _⟩ := h; rfl
 ·obtain ⟨dr, ts, m, rfl, hd, PT, tl, m8, q⟩ := h;refine ⟨_, zG (zO (zH DR hr rfl (zA (zH DO hr rfl (zA (pv 0) zB)) zB))), ?_⟩;refine ⟨_, rfl, dr, ts, m, rfl, hd, tl, m8, fun t H1 s1 ht => ?_⟩;have pl := w8 ts;have cg : ∀ x, x < 2 * m -> phi ts x = fn (xH ts) x := fun x hx => (vN (by lia)).symm;have PF : PermOn (fn (xH ts)) (2 * m) := PT.phi.congr cg;refine ⟨t, xH ts, rfl, SqT.of ht, by rw [pl, tl]; exact PF, by lia, fun l xs H2 s2 hl hl2 hx => ?_⟩;rw [pl, tl, <- q9 PT.phi cg] at hx;exact q l xs H2 (s1.trans s2) (qG s1 hl) hl2 (ztg hx s1)
end
structure Pts (H : Hp) (pd : Addr) (rows : List (List Nat)) (S : Nat -> Prop) (b : Nat) : Prop where
 ex : ∃ kvs : List (Key × V), H pd = some (.dK kvs) /\ (∀ x, S x -> w9 kvs (.inl (x : Int)) = some (.int (xG rows x : Nat))) /\ kvs.length <= b
theorem Pts.same {H H' : Hp} {pd : Addr} {rows : List (List Nat)} {S : Nat -> Prop} {b : Nat} (h : Pts H pd rows S b) (s : Same H H') : Pts H' pd rows S b := by
 obtain ⟨kvs, h1, h2⟩ := h.ex;exact ⟨kvs, s _ _ h1, h2⟩
theorem Pts.put {H : Hp} {pd : Addr} {rows : List (List Nat)} {S : Nat -> Prop} {b x i : Nat} (h : Pts H pd rows S b) (e : xG rows x = i) (hb : b < 300) : ∃ H2, DPut H pd (.int (x : Int)) (.int (i : Int)) H2 /\ (∃ o, H2 = upd H pd o) /\ Pts H2 pd rows (fun y => S y \/ y = x) (b + 1) := by
 obtain ⟨kvs, h1, h2, h3⟩ := h.ex;refine ⟨_, DPut.k (k := .inl (x : Int)) h1 (zbe (by lia)), ⟨_, rfl⟩, ⟨_, zC, fun y hy => ?_, by have := vB kvs (.inl (x : Int) : Key) (.int (i : Int)); lia⟩⟩;rw [zsq];by_cases c : y = x
 ·rw [c, if_pos rfl, e]
 ·rw [if_neg (fun z => c (by injection z with z; lia))];exact h2 y (hy.resolve_right c)
theorem Pts.get {H : Hp} {pd : Addr} {rows : List (List Nat)} {S : Nat -> Prop} {b x : Nat} (h : Pts H pd rows S b) (hx : S x) : DGet H pd (.int (x : Int)) (some (.int (xG rows x : Nat))) := by
 obtain ⟨kvs, h1, h2, h3⟩ := h.ex;have := DGet.k (k := .inl (x : Int)) h1;rw [h2 x hx] at this;exact this
theorem Pts.mono {H : Hp} {pd : Addr} {rows : List (List Nat)} {S S' : Nat -> Prop} {b b' : Nat} (h : Pts H pd rows S b) (hs : ∀ x, S' x -> S x) (hb : b <= b') : Pts H pd rows S' b' := by
 obtain ⟨kvs, h1, h2, h3⟩ := h.ex;exact ⟨kvs, h1, fun x hx => h2 x (hs x hx), by lia⟩
def Met (rows : List (List Nat)) (i x : Nat) : Prop := ∃ (j : Nat) (r : List Nat), j < i /\ rows[j]? = some r /\ x ∈ r
theorem zCh (f : Nat -> Nat) (N : Nat) : (rds f N).length <= N + 1 := by
 unfold rds;split
 ·exact Nat.succ_le_succ (Jj _)
 ·rw [Qj];have := Jr (zef (Cn f N)) (List.range N);rw [Jk] at this;unfold wA;lia
theorem zxz {f : Nat -> Nat} {N : Nat} (P : PermOn f N) {r : List Nat} (h : r ∈ rds f N) : r.length <= N := by
 unfold rds at h;split at h
 ·rw [Qx.mp h]; exact Jj _
 ·obtain ⟨s, hs, rfl⟩ := Ql.mp h;exact zxy P (mem_reps.mp hs).1
theorem zdb {r : List Nat} {j : Nat} {x : V} (hx : ((ci r).map V.int)[j]? = some x) : ∃ e : Nat, r[j]? = some e /\ V.int (e : Int) = x := by
 unfold ci at hx;rw [Wr, Jz] at hx;cases e : r[j]? with
 | none => rw [e] at hx; cases hx
 | some k => rw [e] at hx; exact ⟨k, rfl, Option.some.inj hx⟩
def zgl (K : W.Frag) : Sp := fun vs H Q _ => ∃ (dr : Addr) (ts : List Nat) (m : Nat), vs = [.ref dr] /\ SqT K H dr ((ci ts).map V.int) /\ PermOn (fn ts) (2 * m) /\ ts.length = 2 * m /\ m <= 8 /\ ∀ wv H', Same H H' -> WebAt H' wv ((rds (fn ts) (2 * m)).length : Int) (wF (rds (fn ts) (2 * m)) m) -> Q wv H'
def zjq : Sp := fun vs H Q _ => ∃ (wv : V) (n : Int) (ps : List (Int × Int)), vs = [wv] /\ WebAt H wv n ps /\ 1 <= n /\ n <= 9 /\ (∀ p ∈ ps, InN n p) /\ ps.length <= 8 /\ (wZ n (hdF ps (ups n) (ups (ps.length : Int)))).length = 1 /\ ∀ H', Same H H' -> Q (.bl true) H'
def zeu (K : W.Frag) : Sp := fun vs H Q _ => ∃ (kd : Kd) (a : Addr) (ts : List Nat) (m : Nat), vs = [.ref a] /\ HK kd H a ((ci ts).map V.int) /\ Drw ts m /\ m <= 8 /\ ∀ t H', Same H H' -> SqT K H' t ((ci ts).map V.int) -> Q (.ref t) H'
theorem zto {ts : List Nat} {m : Nat} (hl : ts.length = 2 * m) (P : PermOn (fn ts) (2 * m)) : (ci ts).Perm (ups ((2 * m : Nat) : Int)) := by
 have e : ups ((2 * m : Nat) : Int) = ci (List.range (2 * m)) := by unfold ups ci; rw [Q4]
 rw [e];unfold ci;refine List.Perm.map _ ?_;have el : ts = (List.range (2 * m)).map (fn ts) := by
  apply List.ext_getElem
  ·rw [Qj, Jk, hl]
  ·intro i h1 h2;simp [fn, h1]
 have nd : ts.Nodup := by
  rw [el, Wu, Jt];refine List.pairwise_lt_range.imp_of_mem fun ha hb hab z => ?_;have := P.inj _ _ (Q0.mp ha) (Q0.mp hb) z;lia
 refine (Wx nd List.nodup_range).mpr fun x => ?_;rw [Q0];constructor
 ·intro hx;rw [el] at hx;obtain ⟨i, hi, rfl⟩ := Ql.mp hx;exact P.lt i (Q0.mp hi)
 ·intro hx;obtain ⟨u, hu, e⟩ := P.sur hx;rw [el];exact Ql.mpr ⟨u, Q0.mpr hu, e⟩
section
variable {P : Program} {w : World} {K : W.Frag} {mg : Str -> Option Value} {base : Heap}
theorem scWebOf : zL ["drawing", "rounds", "point_of", "point", "ends", "end", "many"] ["drawing"] (zE zhp) := ⟨rfl, rfl, rfl, by decide +kernel, rfl, by decide +kernel, by decide +kernel⟩
theorem zHp : (["k", "point_of"] : List Str).Nodup := by decide +kernel
theorem zzg (T : Txt K mg) (henum : mg "enumerate" = none) (S : Src K mg "web_of" zhp ["drawing"]) (DR : Def P w K mg base 2 "rounds_of" ["drawing"] (kP K)) (DL : Def P w K mg base 1 "lesser_first" ["a", "b"] zjo) : Def P w K mg base 3 "web_of" ["drawing"] (zgl K) := by
 refine S.def scWebOf (fun vs H Q E h => ?_) (fun f cdv A outer s H vs Q E hr h => ?_)
 ·obtain ⟨_, _, _, rfl, _⟩ := h; rfl
 ·obtain ⟨dr, ts, m, rfl, hd, PT, tl, m8, q⟩ := h;have hr1 : Room 1 _ := hr.mono (by decide);refine ⟨_, zD (zJ (i := 1) scWebOf.nd rfl (Or.inl rfl) (zH DR hr rfl (zA (pv 0) zB)))
   (zD (zJ (i := 2) scWebOf.nd rfl (Or.inr rfl) ztp)
   (zD (wG PassesOwn.never rfl (zcy K .l rfl henum (zA (pv 1) zB)) (wC K 2 rfl (zW (zI (i := 3) scWebOf.nd rfl (Or.inl rfl)) (zW (zI (i := 4) scWebOf.nd rfl (Or.inl rfl)) wB)))
    (zG (wG PassesOwn.never rfl (yM K .l (pv 4)) (zI (i := 5) scWebOf.nd rfl (Or.inl rfl)) (zG (zgu (zeg hr) (pv 2) (pv 5) (pv 3) rfl)))))
   (zD (zJ (i := 6) scWebOf.nd rfl (Or.inl rfl) (zQ x0 (zN (yL K) (by rfl) T.len PySem.boot_len (zA (pv 0) zB)) zF))
   (zG (zO (y8 (zA (zN (yL K) (by rfl) T.len PySem.boot_len (zA (pv 1) zB)) (zA (zY (yG K) rfl T.tuple yH (zA (yT (N' := ["k", "point_of"]) (fr := [none, some 2]) (zS (by rfl)) rfl (xY rfl T.range (zA (pv 6) zB))
    (fun _ _ _ _ => zI (i := 0) zHp rfl (Or.inl rfl) (Or.inr rfl)) (fun _ _ _ _ => xA) (fun _ _ _ _ => zH DL hr1 rfl (zA (zoj (zeg hr) (pv 1) (zQ zdr zF (pv 0)) (fun _ _ => rfl)) (zA (zoj (zeg hr) (pv 1) (zQ xN (zQ zdr zF (pv 0)) zF) (fun _ _ => rfl)) zB)))) zB)) zB)))))))), ?_⟩
  have PT' : PermOn (fn ts) ts.length := by rw [tl]; exact PT
  refine zK fun M hM => ?_;refine ⟨_, rfl, dr, ts, rfl, hd, PT', by lia, fun l xs H1 s1 hl0 hl hx => hM _ _ ?_⟩;clear hM M;rw [tl] at hx;refine zK fun M hM => ?_;refine fun pd hpd => hM _ _ ?_;clear hM M;have s2 := Same.new (o := HO.dK []) hpd;have p0 : Pts (upd H1 pd (.dK [])) pd (rds (fn ts) (2 * m)) (Met (rds (fn ts) (2 * m)) 0) 0 := ⟨[], zC, fun x hx => by obtain ⟨j, _, h, _⟩ := hx; exact absurd h (Nat.not_lt_zero j), Qw _⟩;generalize upd H1 pd (.dK []) = H2 at s2 p0 ⊢;have xl := Paired.length hx;have rl := zCh (fn ts) (2 * m);refine zK fun M hM => ?_;refine ⟨_, rfl, l, xs, rfl, SqL.of (s2 _ _ hl), zlc (k := .l) (K := K) (a := l) (xs := xs) (fun i σ H' => (∃ u v z, σ = [some (.ref dr), some (.ref l), some (.ref pd), u, v, z, none]) /\ Same H1 H' /\ Pts H' pd (rds (fn ts) (2 * m)) (Met (rds (fn ts) (2 * m)) i) (16 * i)) ⟨⟨_, _, _, rfl⟩, s2, p0⟩ (fun i σ H' _ z => SqL.of (z.2.1 _ _ hl)) ?_ ?_⟩
  ·rintro i x p σ H3 hxi ⟨⟨u, v, z, rfl⟩, s3, p3⟩ hp;obtain ⟨r, er, a, rfl, ha0, ha⟩ := Paired.at hx hxi;have il := (Qf.mp hxi).1;have s4 := Same.new (o := HO.tup [.int (i : Int), .ref a]) hp;refine ⟨p, _, rfl, SqT.of zC, rfl, _, _, rfl, _, _, rfl, rfl, ?_⟩;have s14 := s3.trans s4;have p4 := p3.same s4;generalize upd H3 p (.tup [.int (i : Int), .ref a]) = H4 at s14 p4 ⊢;dsimp only [List.set];have rlen := zxz PT (Jq er);refine ⟨_, rfl, a, rfl, ⟨_, SqL.of (s14 _ _ ha)⟩, vP (k := .l) (K := K) (a := a) (xs := (ci r).map V.int) (fun j σ H' => (∃ z, σ = [some (.ref dr), some (.ref l), some (.ref pd), some (.int (i : Int)), some (.ref a), z, none]) /\ Same H1 H' /\ Pts H' pd (rds (fn ts) (2 * m)) (fun x => Met (rds (fn ts) (2 * m)) i x \/ x ∈ r.take j) (16 * i + j)) ⟨⟨_, rfl⟩, s14, p4.mono (fun x hx => hx.resolve_right (fun z => nomatch z)) (Qw _)⟩ (fun j σ H' _ z => SqL.of (z.2.1 _ _ ha)) ?_ ?_⟩
   ·rintro j x σ H5 hxj ⟨⟨z, rfl⟩, s5, p5⟩;obtain ⟨e, ee, rfl⟩ := zdb hxj;have jl := (Qf.mp ee).1;dsimp only [yB, List.set];obtain ⟨H6, dp, ⟨o, eH⟩, p6⟩ := p5.put (x := e) (i := i) (qU PT er (Jq ee)) (by lia);refine ⟨_, rfl, _, rfl, _, rfl, pd, H6, rfl, dp, ⟨_, rfl⟩, by rw [eH]; exact Same.put84 s5 hpd, p6.mono (fun x hx => ?_) (Qw _)⟩;rcases hx with hx | hx
    ·exact .inl (.inl hx)
    ·rw [zM ee] at hx;rcases Qr.mp hx with hx | hx
     ·exact .inl (.inr hx)
     ·exact .inr (Qx.mp hx)
   ·rintro σ H5 ⟨⟨z, rfl⟩, s5, p5⟩;refine ⟨⟨_, _, _, rfl⟩, s5, p5.mono (fun x hx => ?_) (by rw [Qj, xD]; lia)⟩;obtain ⟨j, r', hj, e1, e2⟩ := hx;by_cases c : j = i
    ·rw [c, er] at e1;cases e1
     refine .inr ?_;rw [Qj, xD, Q6];exact e2
    ·exact .inl ⟨j, r', by lia, e1, e2⟩
  rintro σ H3 ⟨⟨u, v, z, rfl⟩, s3, p3⟩;refine hM _ _ ?_;clear hM M;have p3' : Pts H3 pd (rds (fn ts) (2 * m)) (fun x => x < 2 * m) 300 := p3.mono (fun x hx => by
   obtain ⟨i, r, h1, h2⟩ := zna PT hx;exact ⟨i, r, by have := (Qf.mp h1).1; lia, h1, h2⟩) (by lia)
  have s13 := s1.trans s3;refine zK fun M hM => ?_;refine ⟨_, rfl, dr, _, rfl, .inr (sqT s13 hd), _, _, rfl, rfl, ⟨by decide, by decide⟩, hM _ _ ?_⟩;clear hM M;rw [Qj, xD, tl];dsimp only [List.set];rw [show ((2 * m : Nat) : Int) / 2 = (m : Int) by lia];refine ⟨_, rfl, l, xs, rfl, .inl (SqL.of (s3 _ _ hl)), _, rfl, (m : Int), rfl, by lia, by lia, ?_⟩;rw [Q4];refine x8 (lo := 0) (n := m) (fun σ => ∃ v, σ = [v, some (.ref pd)]) (fun i ys H' => Same H3 H' /\ Paired (TieAt H') ys ((wF (rds (fn ts) (2 * m)) m).take i)) ⟨_, rfl⟩ ⟨Same.refl _, .nil⟩ (xF (by lia)) ?_ ?_
  ·rintro i ys σ H4 N hi ⟨u, rfl⟩ ⟨s4, hy⟩ hN;rw [show (0 : Int) + (i : Int) = (i : Int) by lia];dsimp only [yB, List.set];have p4 := p3'.same s4;have g1 := p4.get (x := 2 * i) (by lia);have g2 := p4.get (x := 2 * i + 1) (by lia);rw [show ((2 * i : Nat) : Int) = 2 * (i : Int) by lia] at g1;rw [show ((2 * i + 1 : Nat) : Int) = 2 * (i : Int) + 1 by lia] at g2;refine zbk ⟨_, rfl, _, rfl, _, _, rfl, rfl, .inl ⟨by decide, by decide⟩, pd, _, rfl, g1, _, rfl, _, rfl, _, _, rfl, rfl, .inl ⟨by decide, by decide⟩, _, _, rfl, rfl, pd, _, rfl, g2, _, _, rfl, fun c hc => ?_⟩;have s5 := Same.new (o := HO.tup [.int (wD ((xG (rds (fn ts) (2 * m)) (2 * i) : Int), (xG (rds (fn ts) (2 * m)) (2 * i + 1) : Int))).1, .int (wD ((xG (rds (fn ts) (2 * m)) (2 * i) : Int), (xG (rds (fn ts) (2 * m)) (2 * i + 1) : Int))).2]) hc;refine hN _ _ _ ⟨_, rfl⟩ ⟨s4.trans s5, ?_⟩ (by simp);have e : (wF (rds (fn ts) (2 * m)) m)[i]? = some (wD ((xG (rds (fn ts) (2 * m)) (2 * i) : Int), (xG (rds (fn ts) (2 * m)) (2 * i + 1) : Int))) := by unfold wF; simp [hi]
   rw [zM e];exact L2.Paired.snoc (x9 hy s5) ⟨c, rfl, zC⟩
  ·rintro ys H4 ⟨s4, hy⟩ p hp;rw [W3 (by rw [xO]; exact Qw _)] at hy;refine ⟨p, _, rfl, .inl ⟨SqL.of zC, fun t ht => ⟨by show 2 <= sizeLine; decide, fun c hc => ?_⟩⟩⟩;have s5 := Same.new (o := HO.lst ys) hp;have s6 := Same.new (o := HO.tup ys) ht;have s7 := Same.new (o := HO.tup [.int (xs.length : Int), .ref t]) hc;refine q (.ref c) _ (s13.trans (s4.trans (s5.trans (s6.trans s7)))) ⟨c, t, ys, rfl, ?_, s7 _ _ zC, x9 hy (s5.trans (s6.trans s7))⟩;rw [zC, xl]
theorem ztd : zL ["web"] ["web"] (zE zbw) := ⟨rfl, rfl, rfl, by decide +kernel, rfl, by decide +kernel, by decide +kernel⟩
theorem zut (T : Txt K mg) (S : Src K mg "is_joined" zbw ["web"]) (DC : Def P w K mg base 2 "clusters_of" ["web", "pick"] (zvo K)) (DW : Def P w K mg base 1 "whole_pick" ["web"] zhk) : Def P w K mg base 3 "is_joined" ["web"] zjq := by
 refine S.def ztd (fun vs H Q E h => ?_) (fun f cdv A outer s H vs Q E hr h => ?_)
 ·obtain ⟨_, _, _, rfl, _⟩ := h; rfl
 ·obtain ⟨wv, n, ps, rfl, W, n1, n9, hb, h8, one, q⟩ := h;have hr1 : Room 1 _ := hr.mono (by decide);refine ⟨_, zG (zO (qF qL (zN (yL K) (by rfl) T.len PySem.boot_len (zA (zH DC hr rfl (zA (pv 0) (zA (zH DW hr1 rfl (zA (pv 0) zB)) zB))) zB)) zF (yQ _))), ?_⟩;refine ⟨_, rfl, _, rfl, wv, n, ps, rfl, W, h8, fun t H1 s1 ht => ?_⟩;refine ⟨wv, t, n, ps, ups (ps.length : Int), rfl, W.same s1, n1, n9, hb, FzT.sq ht, fun k hk => mem_ups.mp hk, fun l xs H2 s2 _ hl hx => ?_⟩;have xl := Paired.length hx;unfold zed at xl;rw [Qj, one] at xl;refine ⟨l, xs, rfl, .inl (SqL.of hl), rfl, ?_⟩;rw [xl];exact q H2 (s1.trans s2)
end
theorem zmt : bootBuiltins "any" = some (.builtin "any") := by first | rfl | decide +kernel
section
variable {P : Program} {w : World} {K : W.Frag} {mg : Str -> Option Value} {base : Heap}
theorem scDrawing : zL ["turns", "drawing", "web", "lands"] ["turns"] (zE kR) := ⟨rfl, rfl, rfl, by decide +kernel, rfl, by decide +kernel, by decide +kernel⟩
theorem zHo : (["many", "turns"] : List Str).Nodup := by decide +kernel
theorem zra (T : Txt K mg) (hany : mg "any" = none) {mtok : Tok} (hmt : mg "MOST_TIES" = some (.int 8 mtok)) (S : Src K mg "drawing_of" kR ["turns"]) (DE : Def P w K mg base 2 "is_each_once" ["thing", "many"] zmz) (DW : Def P w K mg base 3 "web_of" ["drawing"] (zgl K)) (DJ : Def P w K mg base 3 "is_joined" ["web"] zjq) (DL : Def P w K mg base 3 "lands_of" ["drawing"] (zgo K)) : Def P w K mg base 4 "drawing_of" ["turns"] (zeu K) := by
 refine S.def scDrawing (fun vs H Q E h => ?_) (fun f cdv A outer s H vs Q E hr h => ?_)
 ·obtain ⟨_, _, _, _, rfl, _⟩ := h; rfl
 ·obtain ⟨kd, a, ts, m, rfl, ha, D, m8, q⟩ := h;have hr2 : Room 2 _ := hr.mono (by decide);have PT := D.perm;have tl := D.len;refine ⟨_, zD (wU (kI (vE (zN (zlh rfl) (by rfl) hany zmt (zA (yT (N' := ["many", "turns"]) (fr := [none, some 0]) (zS (by rfl)) rfl (xY rfl T.range (zA (zQ xN (zoi (v := .int 8) rfl hmt ⟨_, rfl⟩) zF) zB))
    (fun _ _ _ _ => zI (i := 0) zHo rfl (Or.inl rfl) (Or.inr rfl)) (fun _ _ _ _ => xA) (fun _ _ _ _ => zH DE hr2 rfl (zA (pv 1) (zA (zQ zdr zF (pv 0)) zB)))) zB)))) vU xB)
   (zD (zJ (i := 1) scDrawing.nd rfl (Or.inl rfl) (zY (yG K) rfl T.tuple yH (zA (pv 0) zB)))
   (zD (zJ (i := 2) scDrawing.nd rfl (Or.inl rfl) (zH DW hr rfl (zA (pv 1) zB)))
   (zD (wU (kI (vE (zH DJ hr rfl (zA (pv 2) zB)))) vU xB)
   (zD (zJ (i := 3) scDrawing.nd rfl (Or.inl rfl) (zN (yL K) (by rfl) T.len PySem.boot_len (zA (zH DL hr rfl (zA (pv 1) zB)) zB)))
   (zD (wU (yF zih (zQ xN (zQ zbd (yO (yI K) (pv 2) zF (fun _ _ => rfl)) (zN (yL K) (by rfl) T.len PySem.boot_len (zA (yO (yI K) (pv 2) zF (fun _ _ => rfl)) zB))) (pv 3)) zF (yQ _)) vU xB)
   (zG (zO (pv 1)))))))), ?_⟩
  refine zK fun M hM => ?_;refine ⟨_, _, rfl, rfl, 9, rfl, by decide, by decide, ?_⟩;refine x8 (lo := 0) (n := 9) (fun σ => ∃ v, σ = [v, some (.ref a)]) (fun i ys H' => Same H H' /\ ys = (((List.range i).map fun k => decide (2 * m = 2 * k)) : List Bool).map V.bl) ⟨_, rfl⟩ ⟨Same.refl _, rfl⟩ (xF (by decide)) ?_ ?_
  ·rintro i ys σ H' N hi ⟨u, rfl⟩ ⟨sm, rfl⟩ hN;rw [show (0 : Int) + (i : Int) = (i : Int) by lia];dsimp only [yB, List.set];refine zbk ⟨_, rfl, _, rfl, _, _, rfl, rfl, .inl ⟨by decide, by decide⟩, kd, a, 2 * i, 2 * m, ci ts, ?_, ha.same sm, by lia, by lia, zto tl PT, fun H2 s2 => ?_⟩
   ·rw [show ((2 * i : Nat) : Int) = 2 * (i : Int) by lia];rfl
   ·refine hN _ _ _ ⟨_, rfl⟩ ⟨sm.trans s2, ?_⟩ (by simp);rw [Wv, Qu, Qu];rfl
  rintro ys H1 ⟨s1, rfl⟩ p hp;have an : ((List.range 9).map fun k => decide (2 * m = 2 * k)).any id = true := by
   rw [List.any_map, Ju];exact ⟨m, Q0.mpr (by lia), Q2 rfl⟩
  refine ⟨p, _, rfl, SqL.of zC, _, rfl, ?_⟩;rw [an];have s2 := s1.trans (Same.new (o := HO.lst (((List.range 9).map fun k => decide (2 * m = 2 * k)).map V.bl)) hp);refine wL (hM _ _ ?_);clear hM M;have ha2 := ha.same s2;generalize upd H1 p (.lst (((List.range 9).map fun k => decide (2 * m = 2 * k)).map V.bl)) = H2 at s2 ha2 ⊢;refine zK fun M hM => ?_;have go : ∀ t H3, Same H H3 -> SqT K H3 t ((ci ts).map V.int) -> M [some (.ref a), some (.ref t), none, none] H3 := fun t H3 s3 ht => by
   refine hM _ _ ?_;clear hM M;obtain ⟨n1, eu⟩ := zbz D;have f1 := zjz D;refine zK fun M hM => ?_;refine ⟨_, rfl, t, ts, m, rfl, ht, PT, tl, m8, fun wv H4 s4 W => hM _ _ ?_⟩;clear hM M;dsimp only [List.set];have pl := xO (rds (fn ts) (2 * m)) m;refine zK fun M hM => ?_;refine ⟨_, rfl, wv, _, _, rfl, W, by lia, by lia, zgj tl PT, by lia, by rw [pl]; exact zcp D, fun H5 s5 => ⟨_, rfl, wL (hM _ _ ?_)⟩⟩;clear hM M;refine zK fun M hM => ?_;have ht5 := sqT (s4.trans s5) ht;refine ⟨_, rfl, t, ts, m, rfl, ht5, PT, tl, m8, fun l xs H6 s6 _ hl hx => ?_⟩;have xl := Paired.length hx;refine ⟨l, xs, rfl, .inl (SqL.of hl), hM _ _ ?_⟩;clear hM M;dsimp only [List.set];refine zK fun M hM => ?_;obtain ⟨c, d, zs, rfl, hc, hd, hz⟩ := (W.same (s5.trans s6)).ex;have zl := Paired.length hz;refine ⟨_, rfl, c, _, _, _, rfl, rfl, SqT.of hc, yC (j := 0) rfl, _, rfl, c, _, _, _, rfl, rfl, SqT.of hc, yC (j := 1) rfl, d, zs, rfl, .inr (SqT.of hd), _, _, rfl, rfl, _, rfl, _, _, rfl, rfl, rfl, _, rfl, ?_⟩;rw [Q2 (show V.int (((rds (fn ts) (2 * m)).length : Int) - (zs.length : Int) + (xs.length : Int)) = V.int 2 by rw [zl, pl, xl]; congr 1; lia)];refine wL (hM _ _ ?_);exact ⟨_, rfl, q t H6 (s3.trans (s4.trans (s5.trans s6))) (sqT s6 ht5)⟩
  refine ⟨_, rfl, a, (ci ts).map V.int, rfl, ?_⟩;cases kd with
  | l => exact .inl ⟨HK.sq (kd := .l) ha2, fun t ht => go t _ (s2.trans (Same.new ht)) (SqT.of zC)⟩
  | t => exact .inr ⟨HK.sq (kd := .t) ha2, go a H2 s2 (HK.sq (kd := .t) ha2)⟩
end
def rs (m : Nat) (A : List Int) : List Int := gQ (ups m) A
theorem mem_rs {m : Nat} {A : List Int} {k : Int} : k ∈ rs m A ↔ (0 <= k /\ k < (m : Int)) /\ k ∉ A := by unfold rs; rw [mem_off, mem_ups]
theorem zse (m : Nat) (A : List Int) : (rs m A).Pairwise (· < ·) := zvy (xS _) A
theorem zic (m : Nat) (A : List Int) : Ks m (rs m A) := fun _ h => (mem_rs.mp h).1
theorem zdn {m : Nat} {A : List Int} (hA : Ks m A) (up : A.Pairwise (· < ·)) : ((rs m A).length : Int) + A.length = m := by
 have := gP (xS (m : Int)) A (yZ up) fun g hg => mem_ups.mpr (hA g hg);rw [yP] at this;unfold rs;lia
theorem zau {m : Nat} {A : List Int} (hA : Ks m A) (up : A.Pairwise (· < ·)) : rs m (rs m A) = A := zln (zse m _) up fun k => by
 rw [mem_rs, mem_rs];constructor
 ·rintro ⟨h, n⟩;by_cases c : k ∈ A
  ·exact c
  ·exact absurd ⟨h, c⟩ n
 ·exact fun h => ⟨hA k h, fun z => z.2 h⟩
structure Du (n1 n2 : Int) (ps qs : List (Int × Int)) : Prop where
 ok1 : xR n1 ps
 ok2 : xR n2 qs
 len : qs.length = ps.length
 all : zT n1 ps + zT n2 qs = ps.length
 rk : ∀ {A R : List Int}, Ks ps.length A -> Ks ps.length R -> (A.length : Int) + R.length = ps.length -> (∀ j : Nat, j < ps.length -> (j : Int) ∈ A \/ (j : Int) ∈ R) -> rkP n2 qs R = R.length - zT n1 ps + rkP n1 ps A
section
variable {n1 n2 : Int} {ps qs : List (Int × Int)}
theorem Du.symm (D : Du n1 n2 ps qs) : Du n2 n1 qs ps where
 ok1 := D.ok2
 ok2 := D.ok1
 len := D.len.symm
 all := by have := D.all; rw [D.len]; lia
 rk {A R} hA hR al cov := by
  have e := D.len;rw [e] at hA hR al cov;have := D.rk hR hA (by lia) fun j hj => (cov j hj).symm;have := D.all;lia
theorem Du.tree (D : Du n1 n2 ps qs) {t : List Int} (h : t ∈ zX n1 ps) : rs ps.length t ∈ zX n2 qs := by
 have TR := tree_of D.ok1 h;have tl := xJ h;have rl := zdn TR.ks TR.up;have e := D.rk TR.ks (zic ps.length t) (by lia) fun j hj => by
  by_cases c : (j : Int) ∈ t
  ·exact .inl c
  ·exact .inr (mem_rs.mpr ⟨by lia, c⟩)
 have rt : rkP n1 ps t = (t.length : Int) := by rw [xX]; have := TR.rk; lia
 have a := D.all;have q : zow n2 qs (rs ps.length t) = true := by
  unfold zow;rw [Q5, Qc, Qc];lia
 rw [zde D.ok2.2.2 (by rw [D.len]; exact zic _ _) (zse _ _), Qc] at q;exact q
theorem Du.chg (D : Du n1 n2 ps qs) {t : List Int} (h : t ∈ zX n1 ps) {g c : Int} (hg : g ∈ t) (hc : 0 <= c /\ c < (ps.length : Int)) (ct : c ∉ t) : mkB n1 ps t g c = mkB n2 qs (rs ps.length t) c g := by
 have TR := tree_of D.ok1 h;have tl := xJ h;have h2 := D.tree h;have T2 := tree_of D.ok2 h2;have t2 := xJ h2;have g0 := TR.ks g hg;have cr : c ∈ rs ps.length t := mem_rs.mpr ⟨hc, ct⟩;have k1 : Ks ps.length (yJ t g ++ [c]) := zR (fun x hx => TR.ks x (drop_mem.mp hx).1) (v6 hc.1 hc.2);have k2 : Ks ps.length (yJ (rs ps.length t) c ++ [g]) := zR (fun x hx => zic ps.length t x (drop_mem.mp hx).1) (v6 g0.1 g0.2);have l1 := wQ TR.up hg;have l2 := wQ T2.up cr;have rl := zdn TR.ks TR.up;have e := D.rk k1 k2 (by simp only [Q3, List.length_singleton]; lia) fun j hj => by
  by_cases cj : (j : Int) ∈ t
  ·by_cases z : (j : Int) = g
   ·exact .inr (Qp _ (Qx.mpr z))
   ·exact .inl (Qn _ (drop_mem.mpr ⟨cj, z⟩))
  ·by_cases z : (j : Int) = c
   ·exact .inl (Qp _ (Qx.mpr z))
   ·exact .inr (Qn _ (drop_mem.mpr ⟨mem_rs.mpr ⟨by lia, cj⟩, z⟩))
 have k2' : Ks qs.length (yJ (rs ps.length t) c ++ [g]) := by rw [D.len]; exact k2
 obtain ⟨⟨a1, a9⟩, ab, _⟩ := D.ok1;obtain ⟨⟨b1, b9⟩, bb, _⟩ := D.ok2;have al := D.all;unfold mkB;rw [<- zid a1 a9 ab k1, <- zid b1 b9 bb k2', decide_eq_decide];rw [Q3, List.length_singleton] at e;lia
theorem Du.lin (D : Du n1 n2 ps qs) {t ord : List Int} (h : t ∈ zX n1 ps) (pm : ord.Perm (ups ps.length)) : zkn n1 ps t ord = gA n2 qs (rs ps.length t) ord := by
 have TR := tree_of D.ok1 h;refine zln (TR.up.filter _) ((xS _).filter _) fun g => ?_;have inn : ∀ c, c ∈ ord.take (wY ord g) -> 0 <= c /\ c < (ps.length : Int) := fun c hc => mem_ups.mp (pm.mem_iff.mp (List.mem_of_mem_take hc));have e : (g ∈ zkn n1 ps t ord ↔ g ∈ gA n2 qs (rs ps.length t) ord) := by
  rw [mem_lin, mem_lout, D.len];constructor
  ·rintro ⟨hg, h1⟩;refine ⟨TR.ks g hg, fun z => (mem_rs.mp z).2 hg, fun c hc cr => ?_⟩;rw [<- D.chg h hg (inn c hc) (mem_rs.mp cr).2];exact h1 c hc (mem_rs.mp cr).2
  ·rintro ⟨g0, gn, h1⟩;have hg : g ∈ t := by
    by_cases c : g ∈ t
    ·exact c
    ·exact absurd (mem_rs.mpr ⟨g0, c⟩) gn
   refine ⟨hg, fun c hc ct => ?_⟩;rw [D.chg h hg (inn c hc) ct];exact h1 c hc (mem_rs.mpr ⟨inn c hc, ct⟩)
 exact e
theorem Du.lout (D : Du n1 n2 ps qs) {t ord : List Int} (h : t ∈ zX n1 ps) (pm : ord.Perm (ups ps.length)) : gA n1 ps t ord = zkn n2 qs (rs ps.length t) ord := by
 have TR := tree_of D.ok1 h;have := D.symm.lin (ord := ord) (D.tree h) (by rw [D.len]; exact pm);rw [D.len, zau TR.ks TR.up] at this;exact this.symm
theorem Du.lies (D : Du n1 n2 ps qs) {pick t ord : List Int} (h : t ∈ zX n1 ps) (kp : Ks ps.length pick) (pm : ord.Perm (ups ps.length)) (hl : zij n1 ps pick t ord = true) : zij n2 qs (rs ps.length pick) (rs ps.length t) ord = true := by
 obtain ⟨h1, h2⟩ := lies_iff.mp hl;refine lies_iff.mpr ⟨fun k hk hp => ?_, fun k hk hp => ?_⟩
 ·rw [<- D.lout h pm];obtain ⟨k0, kt⟩ := mem_rs.mp hk;refine h2 k ?_ kt;by_cases c : k ∈ pick
  ·exact c
  ·exact absurd (mem_rs.mpr ⟨k0, c⟩) hp
 ·rw [<- D.lin h pm];obtain ⟨k0, kt⟩ := mem_rs.mp hk;refine h1 k ?_ kt;by_cases c : k ∈ t
  ·exact c
  ·exact absurd (mem_rs.mpr ⟨k0, c⟩) hp
theorem Du.treeO (D : Du n1 n2 ps qs) {pick ord : List Int} (kp : Ks ps.length pick) (pm : ord.Perm (ups ps.length)) : My.treeO n2 qs (rs ps.length pick) ord = rs ps.length (My.treeO n1 ps pick ord) := by
 have hin := zcs D.ok1 pm pick;exact (zqm D.ok2 (by rw [D.len]; exact pm) (D.tree hin) (D.lies hin kp pm (ztw D.ok1 pm pick kp))).symm
theorem Du.trees (D : Du n1 n2 ps qs) {kss : List (List Int)} (hp : kss.Perm ((zX n1 ps).map (rs ps.length))) (hs : kss.Pairwise qN) : kss = zX n2 qs := by
 obtain ⟨⟨b1, b9⟩, bb, b8⟩ := D.ok2;refine zDg (hp.trans ?_) hs (zss b1 b9 bb b8);have nd : ∀ {n : Int} {ps : List (Int × Int)}, ps.length <= 8 -> (zX n ps).Nodup := fun h => ((zaa h).filter _).filter _;refine (Wx ?_ (nd b8)).mpr fun a => ?_
 ·unfold List.Nodup;rw [Jt];refine (nd D.ok1.2.2).imp_of_mem fun {x y} hx hy ne z => ne ?_;have X := tree_of D.ok1 hx;have Y := tree_of D.ok1 hy;rw [<- zau X.ks X.up, z, zau Y.ks Y.up]
 ·rw [Ql];constructor
  ·rintro ⟨t, ht, rfl⟩; exact D.tree ht
  ·intro ha;have A := tree_of D.ok2 ha;have := D.symm.tree ha;rw [D.len] at this;exact ⟨_, this, zau (by rw [<- D.len]; exact A.ks) A.up⟩
theorem Du.tut (D : Du n1 n2 ps qs) (i j : Int) : My.tut n2 qs (i, j) = My.tut n1 ps (j, i) := by
 have p : ((vJ ps).map (rs ps.length)).Perm (vJ qs) := by
  refine (Wx ?_ (zaa D.ok2.2.2)).mpr fun a => ?_
  ·unfold List.Nodup;rw [Jt];refine (show (vJ ps).Nodup from zaa D.ok1.2.2).imp_of_mem fun {x y} hx hy ne z => ne ?_;have X := (xK D.ok1.2.2).mp hx;have Y := (xK D.ok1.2.2).mp hy;rw [<- zau X.1 X.2, z, zau Y.1 Y.2]
  ·rw [Ql];constructor
   ·rintro ⟨t, ht, rfl⟩;exact (xK D.ok2.2.2).mpr ⟨by rw [D.len]; exact zic _ _, zse _ _⟩
   ·intro ha;have A := (xK D.ok2.2.2).mp ha;refine ⟨rs ps.length a, (xK D.ok1.2.2).mpr ⟨zic _ _, zse _ _⟩, zau (by rw [<- D.len]; exact A.1) A.2⟩
 unfold My.tut;rw [<- zxp p, zBu];refine zsy fun A hA => ?_;have X := (xK D.ok1.2.2).mp hA;have rl := zdn X.1 X.2;have e := D.rk X.1 (zic ps.length A) (by lia) fun j hj => by
  by_cases c : (j : Int) ∈ A
  ·exact .inl c
  ·exact .inr (mem_rs.mpr ⟨by lia, c⟩)
 have al := D.all;dsimp only;rw [show zT n2 qs - rkP n2 qs (rs ps.length A) = (A.length : Int) - rkP n1 ps A by lia, show ((rs ps.length A).length : Int) - rkP n2 qs (rs ps.length A) = zT n1 ps - rkP n1 ps A by lia, Int.mul_comm]
end
section
variable {m : Nat} {f : Nat -> Nat} {P L : Nat -> Int} {n1 n2 : Int} {ps qs : List (Int × Int)}
theorem Dual.du (D : Dual m f P L n1 n2 ps qs) (o1 : xR n1 ps) (o2 : xR n2 qs) (eu : n1 + n2 = m + 2) (w1 : cN n1 ps (ups m) = 1) (w2 : cN n2 qs (ups m) = 1) : Du n1 n2 ps qs where
 ok1 := o1
 ok2 := o2
 len := by rw [D.lp, D.lq]
 all := by
  unfold zT;rw [xX, xX, D.lp, D.lq, w1, w2];lia
 rk {A R} hA hR al cov := by
  rw [D.lp] at hA hR al cov;have := D.rank o1.1.1 o2.1.1 o1.1.2 o2.1.2 o1.2.1 o2.2.1 eu w1 w2 hA hR al cov;unfold zT;rw [xX, xX, xX, D.lp, w1];lia
end
noncomputable def nP (ts : List Nat) (m : Nat) : Int := ((rds (fn ts) (2 * m)).length : Int)
noncomputable def tD (ts : List Nat) (m : Nat) : List (Int × Int) := wF (rds (fn ts) (2 * m)) m
section
variable {ts : List Nat} {m : Nat}
theorem zgv (hl : ts.length = 2 * m) {x : Nat} (hx : x < 2 * m) : phi (xH ts) x = fn ts x := by
 show fn (xH ts) (mate x) = _;rw [vN (by rw [hl]; exact zV hx)];show fn ts (mate (mate x)) = _;rw [yK]
theorem zqg (hl : ts.length = 2 * m) : xH (xH ts) = ts := by
 apply List.ext_getElem
 ·rw [w8, w8]
 ·intro i h1 h2;have h3 : i < 2 * m := by lia
  have e := zgv hl h3;have f := vN (ts := xH ts) (x := i) (by rw [w8]; exact h2);rw [e] at f;unfold fn at f;rw [Qd, Q9 h1, Qd, Q9 h2] at f;exact f
theorem Drw.other (D : Drw ts m) : Drw (xH ts) m := by
 have hl := D.len;have pl : (xH ts).length = 2 * m := by rw [w8, hl]
 have f1 : ∀ x, x < 2 * m -> phi ts x = fn (xH ts) x := fun x hx => (vN (by lia)).symm;have f2 : ∀ x, x < 2 * m -> fn ts x = phi (xH ts) x := fun x hx => (zgv hl hx).symm;refine ⟨pl, D.perm.phi.congr f1, fun x hx => ?_, ?_⟩
 ·have : ∀ {x y}, Jn ts x y -> Jn (xH ts) x y := fun h => by
   induction h with
   | refl x => exact .refl x
   | @turn x hx =>
    have h2 : mate x < 2 * m := zV (by lia);have := Jn.turn (ts := xH ts) (x := mate x) (by lia);rw [vN (by lia)] at this;have e : phi ts (mate x) = fn ts x := by show fn ts (mate (mate x)) = _; rw [yK]
    rw [e] at this;exact .trans (.mate x) this
   | mate x => exact .mate x
   | symm _ ih => exact .symm ih
   | trans _ _ i1 i2 => exact .trans i1 i2
  exact this (D.joined x hx)
 ·refine D.plane.imp id fun e => ?_;have a : nV (xH ts) = nF ts := by
   unfold nV nF;rw [pl, hl];exact congrArg _ (wS fun x y _ _ => (Cn.congr f1 x y).symm)
  have b : nF (xH ts) = nV ts := by
   unfold nV nF;rw [pl, hl];exact congrArg _ (wS fun x y _ _ => (Cn.congr f2 x y).symm)
  lia
theorem zvg (rows : List (List Nat)) {k : Nat} (hk : k < m) : yE (wF rows m) k = wD ((xG rows (2 * k) : Int), (xG rows (2 * k + 1) : Int)) := by
 unfold yE wF;rw [Q4, Qd, Jz, List.getElem?_range hk];rfl
theorem Drw.ok (D : Drw ts m) (h8 : m <= 8) : xR (nP ts m) (tD ts m) := by
 have a := zbz D;have b := zjz D;unfold xR nP tD;exact ⟨by lia, zgj D.len D.perm, by rw [xO]; exact h8⟩
theorem Drw.one (D : Drw ts m) (h8 : m <= 8) : cN (nP ts m) (tD ts m) (ups m) = 1 := by
 obtain ⟨⟨n1, _⟩, hb, _⟩ := D.ok h8;have := zpi n1 hb (A := ups (m : Int)) (by unfold tD; rw [xO]; exact wR m);have j := zcp D;rw [<- this];unfold zed nP tD;rw [Qj, j];rfl
theorem Drw.dual (D : Drw ts m) : Dual m (fn ts) (fun e => (xG (rds (fn ts) (2 * m)) e : Int)) (fun e => (xG (rds (fn (xH ts)) (2 * m)) e : Int)) (nP ts m) (nP (xH ts) m) (tD ts m) (tD (xH ts) m) where
 perm := D.perm
 pf e he := congrArg Int.ofNat (zcx D.perm he (.step he)).symm
 lf e he := by
  have P2 := D.other.perm;have h := zV he;have := zcx P2 h (.step h);have e2 : fn (xH ts) (mate e) = fn ts e := by
   rw [vN (by rw [D.len]; exact h)];show fn ts (mate (mate e)) = _;rw [yK]
  rw [e2] at this;exact congrArg Int.ofNat this
 lp := xO _ _
 lq := xO _ _
 hp k hk := zvg _ hk
 hq k hk := zvg _ hk
theorem Drw.du (D : Drw ts m) (h8 : m <= 8) : Du (nP ts m) (nP (xH ts) m) (tD ts m) (tD (xH ts) m) := by
 refine D.dual.du (D.ok h8) (D.other.ok h8) ?_ (D.one h8) (D.other.one h8);have := (zbz D).2;have e : rds (phi ts) (2 * m) = rds (fn (xH ts)) (2 * m) := q9 D.perm.phi fun x hx => (vN (by rw [D.len]; exact hx)).symm;rw [e] at this;unfold nP;lia
theorem zmw (ts : List Nat) (m : Nat) : (tD ts m).length = m := xO _ _
end
theorem zkg {n : Int} {ps : List (Int × Int)} (ok : xR n ps) {A : List Int} (hA : Ks ps.length A) (c1 : cN n ps A = 1) : ∃ hs h, GH n ps A hs /\ ∀ i, 0 <= i -> i < n -> at0 hs i = h := by
 obtain ⟨⟨n1, n9⟩, hb, h8⟩ := ok;have G := vF n1 hb hA;have e := zpi n1 hb hA;rw [c1] at e;unfold zed at e;rw [Qj] at e;have l1 : (wZ n (hdF ps (ups n) A)).length = 1 := by lia
 obtain ⟨h, eh⟩ := List.length_eq_one_iff.mp l1;refine ⟨_, h, G, fun i i0 i1 => ?_⟩;have le := G.le i i0 i1;have m : at0 (hdF ps (ups n) A) i ∈ wZ n (hdF ps (ups n) A) := mem_hpts.mpr ⟨⟨le.1, by lia⟩, G.idem i i0 i1⟩;rw [eh] at m;exact Qx.mp m
def gJ (ps : List (Int × Int)) (v k : Int) : Bool := decide ((yE ps k).1 ≠ (yE ps k).2 /\ ((yE ps k).1 = v \/ (yE ps k).2 = v))
def stL (ps : List (Int × Int)) (v : Int) : List Int := (ups ps.length).filter (gJ ps v)
def qC (X p : List Int) : Bool := p.all fun k => !decide (k ∈ X)
theorem zGs {α : Type} (a b : α -> Bool) : ∀ l : List α, (l.filter fun p => a p && b p).length + (l.filter fun p => !a p).length + (l.filter fun p => !b p).length = l.length + (l.filter fun p => !a p && !b p).length
 | [] => rfl
 | x :: l => by
  have ih := zGs a b l;simp only [List.filter_cons, Jh];cases a x <;> cases b x <;> simp <;> lia
theorem zeo {α : Type} (a : α -> Bool) : ∀ l : List α, (l.filter a).length + (l.filter fun p => !a p).length = l.length
 | [] => rfl
 | x :: l => by
  have ih := zeo a l;simp only [List.filter_cons, Jh];cases a x <;> simp <;> lia
def F4 : List (List Int) := (wK 8 9).filter fun p => decide ((p.length : Int) = 4)
theorem chk4 : F4.length = 70 /\ ∀ Z ∈ wK 8 9, (Z.length <= 2 -> 7 <= (F4.filter (qC Z)).length) /\ (Z.length <= 3 -> 5 <= (F4.filter (qC Z)).length) /\ (4 <= Z.length -> (F4.filter (qC Z)).length <= 1) := by decide +kernel
theorem zIh : ∀ m ∈ List.range 9, ∀ r ∈ List.range 9, (m = 8 /\ r = 4) \/ ((wK (m : Int) (m + 1)).filter fun p => decide ((p.length : Int) = (r : Int))).length < 64 := by decide +kernel
theorem ends (ps : List (Int × Int)) : ∀ l : List Int, (l.filter (gJ ps 0)).length + (l.filter (gJ ps 1)).length + (l.filter (gJ ps 2)).length + (l.filter (gJ ps 3)).length + (l.filter (gJ ps 4)).length <= 2 * l.length
 | [] => Qw _
 | k :: l => by
  have ih := ends ps l;have st : ∀ v : Int, (((k :: l).filter (gJ ps v)).length : Int) <= (l.filter (gJ ps v)).length + ((if (yE ps k).1 = v then 1 else 0) + (if (yE ps k).2 = v then 1 else 0)) := fun v => by
   rw [List.filter_cons];split
   ·next h =>
    have := Jf h;rw [Jh];rcases this.2 with z | z
    ·rw [if_pos z]; split <;> lia
    ·rw [if_pos z]; split <;> lia
   ·split <;> split <;> lia
  have o : ∀ x : Int, (if x = 0 then (1 : Int) else 0) + (if x = 1 then 1 else 0) + (if x = 2 then 1 else 0) + (if x = 3 then 1 else 0) + (if x = 4 then 1 else 0) <= 1 := fun x => by
   by_cases a0 : x = 0
   ·subst a0; decide
   ·by_cases a1 : x = 1
    ·subst a1; decide
    ·by_cases a2 : x = 2
     ·subst a2; decide
     ·by_cases a3 : x = 3
      ·subst a3; decide
      ·rw [if_neg a0, if_neg a1, if_neg a2, if_neg a3]; split <;> lia
  have s0 := st 0;have s1 := st 1;have s2 := st 2;have s3 := st 3;have s4 := st 4;have o1 := o (yE ps k).1;have o2 := o (yE ps k).2;rw [Jh];lia
section
variable {n : Int} {ps : List (Int × Int)} (ok : xR n ps)
include ok
theorem zct {v k : Int} (h : gJ ps v k = false) : (yE ps k).1 = v ↔ (yE ps k).2 = v := by
 have := Wj h;by_cases e : (yE ps k).1 = (yE ps k).2
 ·rw [e]
 ·constructor
  ·exact fun z => absurd ⟨e, .inl z⟩ this
  ·exact fun z => absurd ⟨e, .inr z⟩ this
theorem zac (h5 : n = 5) (r4 : zT n ps = 4) {A : List Int} (hA : A ∈ zX n ps) {v : Int} (v0 : 0 <= v) (v5 : v < 5) : qC (stL ps v) A = false := by
 have TR := tree_of ok hA;have tl := xJ hA;have c1 : cN n ps A = 1 := by have := TR.rk; lia
 obtain ⟨hs, h, G, al⟩ := zkg ok TR.ks c1;cases c : qC (stL ps v) A with
 | false => rfl
 | true =>
  exfalso;have off : ∀ k ∈ A, gJ ps v k = false := fun k hk => by
   have := Jb.mp c k hk;have z : k ∉ stL ps v := by simpa using this
   cases d : gJ ps v k with
   | false => rfl
   | true => exact absurd (Qg.mpr ⟨mem_ups.mpr (TR.ks k hk), d⟩) z
  have cl := G.cl (fun x => x = v) fun k hk => zct ok (off k hk);have e1 := (cl v v0 (by lia)).mp rfl;rw [al v v0 (by lia)] at e1;have e2 := (cl 0 (by lia) (by lia)).mpr (by rw [al 0 (by lia) (by lia)]; exact e1);have e3 := (cl 1 (by lia) (by lia)).mpr (by rw [al 1 (by lia) (by lia)]; exact e1);lia
theorem zxo (h5 : n = 5) (j : cN n ps (ups ps.length) = 1) {u v : Int} (u0 : 0 <= u) (u5 : u < 5) (ne : u ≠ v) : stL ps u ≠ stL ps v := fun e => by
 obtain ⟨hs, h, G, al⟩ := zkg ok (wR ps.length) j;have eq : ∀ k ∈ ups ps.length, gJ ps u k = gJ ps v k := fun k hk => by
  have a : k ∈ stL ps u ↔ gJ ps u k = true := by unfold stL; rw [Qg]; exact ⟨fun z => z.2, fun z => ⟨hk, z⟩⟩
  have b : k ∈ stL ps v ↔ gJ ps v k = true := by unfold stL; rw [Qg]; exact ⟨fun z => z.2, fun z => ⟨hk, z⟩⟩
  rw [Jp, <- a, <- b, e]
 have cl := G.cl (fun x => x = u \/ x = v) fun k hk => by
  cases d : gJ ps u k with
  | false =>
   have d2 := (eq k hk).symm.trans d;have a := zct ok d;have b := zct ok d2;exact ⟨fun z => z.imp a.mp b.mp, fun z => z.imp a.mpr b.mpr⟩
  | true =>
   have d2 := (eq k hk).symm.trans d;have a := (Jf d).2;have b := (Jf d2).2;constructor
   ·intro _;rcases a with z | z
    ·rcases b with y | y
     ·exact absurd (z.symm.trans y) ne
     ·exact .inr y
    ·exact .inl z
   ·intro _;rcases a with z | z
    ·exact .inl z
    ·rcases b with y | y
     ·exact .inr y
     ·exact absurd (z.symm.trans y) ne
 have e1 := (cl u u0 (by lia)).mp (.inl rfl);rw [al u u0 (by lia)] at e1;have f : ∀ i, 0 <= i -> i < 5 -> i = u \/ i = v := fun i i0 i5 => (cl i i0 (by lia)).mpr (by rw [al i i0 (by lia)]; exact e1);have f0 := f 0 (by lia) (by lia);have f1 := f 1 (by lia) (by lia);have f2 := f 2 (by lia) (by lia);lia
theorem zqt (j : cN n ps (ups ps.length) = 1) : (zX n ps).length < 64 := by
 have h8 := ok.2.2;have er : zT n ps = n - 1 := by unfold zT; rw [xX, j]
 have rw1 := (wT ok.1.1 ok.1.2 ok.2.1).le (wR ps.length);rw [yP] at rw1;have rl : zT n ps <= ps.length := by unfold zT; lia
 have n1 := ok.1.1;have lt := Jr (fun p => decide (rkP n ps p = zT n ps)) ((vJ ps).filter fun p => decide ((p.length : Int) = zT n ps));rcases zIh ps.length (Q0.mpr (by lia)) (zT n ps).toNat (Q0.mpr (by lia)) with ⟨m8, r4⟩ | c
 ·have r4 : zT n ps = 4 := by lia
  have h5 : n = 5 := by lia
  have ts : ∀ A ∈ zX n ps, A ∈ F4 := fun A hA => by
   have a := zep hA;unfold vJ at a;rw [m8] at a;exact Qg.mpr ⟨a, Q2 (by rw [xJ hA, r4])⟩
  have nd : (zX n ps).Nodup := ((zaa h8).filter _).filter _;have meets : ∀ q : List Int -> Bool, (∀ A ∈ zX n ps, q A = true) -> (zX n ps).length <= (F4.filter q).length := fun q hq => k9 nd fun A hA => Qg.mpr ⟨ts A hA, hq A hA⟩;have inU : ∀ v, stL ps v ∈ wK 8 9 := fun v => by
   have := kS (m := ps.length) h8 (fun k hk => mem_ups.mp (Qg.mp hk).1 : Ks ps.length (stL ps v)) ((xS _).filter _);rw [m8] at this;exact this
  have split : ∀ X, (F4.filter (qC X)).length + (F4.filter fun p => !qC X p).length = 70 := fun X => by
   rw [zeo, chk4.1]
  have low : ∀ v, 0 <= v -> v < 5 -> (stL ps v).length <= 2 -> (zX n ps).length < 64 := fun v v0 v5 l2 => by
   have a := (chk4.2 _ (inU v)).1 l2;have b := meets (fun p => !qC (stL ps v) p) fun A hA => by rw [zac ok h5 r4 hA v0 v5]; rfl
   have c := split (stL ps v);lia
  have two : ∀ u v, 0 <= u -> u < 5 -> 0 <= v -> v < 5 -> u ≠ v -> (stL ps u).length <= 3 -> (stL ps v).length <= 3 -> (zX n ps).length < 64 := fun u v u0 u5 v0 v5 ne lu lv => by
   by_cases lu2 : (stL ps u).length <= 2
   ·exact low u u0 u5 lu2
   ·by_cases lv2 : (stL ps v).length <= 2
    ·exact low v v0 v5 lv2
    ·have a := (chk4.2 _ (inU u)).2.1 lu;have b := (chk4.2 _ (inU v)).2.1 lv;have upu : (stL ps u).Pairwise (· < ·) := (xS _).filter _;have upv : (stL ps v).Pairwise (· < ·) := (xS _).filter _;have upz : ((ups (8 : Int)).filter fun k => decide (k ∈ stL ps u \/ k ∈ stL ps v)).Pairwise (· < ·) := (xS _).filter _;have mz : ∀ k, k ∈ ((ups (8 : Int)).filter fun k => decide (k ∈ stL ps u \/ k ∈ stL ps v)) ↔ k ∈ stL ps u \/ k ∈ stL ps v := fun k => by
      rw [Qg, Qc];refine ⟨fun z => z.2, fun z => ⟨?_, z⟩⟩;have e8 : ((ps.length : Nat) : Int) = 8 := by lia
      rcases z with z | z
      ·have := (Qg.mp z).1; rw [e8] at this; exact this
      ·have := (Qg.mp z).1; rw [e8] at this; exact this
     generalize ((ups (8 : Int)).filter fun k => decide (k ∈ stL ps u \/ k ∈ stL ps v)) = Z at upz mz;have iz : Z ∈ wK 8 9 := kS (m := 8) (by decide) (fun k hk => by
      rcases (mz k).mp hk with z | z
      ·have := mem_ups.mp (Qg.mp z).1; lia
      ·have := mem_ups.mp (Qg.mp z).1; lia) upz
     have ou := gP upz (stL ps u) (yZ upu) fun k hk => (mz k).mpr (.inl hk);have ov := gP upz (stL ps v) (yZ upv) fun k hk => (mz k).mpr (.inr hk);have z4 : 4 <= Z.length := by
      refine Classical.byContradiction fun nz => zxo ok h5 j u0 u5 ne ?_;have e1 : gQ Z (stL ps u) = [] := Wl.mp (by lia);have e2 : gQ Z (stL ps v) = [] := Wl.mp (by lia);refine zln upu upv fun k => ⟨fun hk => ?_, fun hk => ?_⟩
      ·refine Classical.byContradiction fun nk => ?_;have : k ∈ gQ Z (stL ps v) := mem_off.mpr ⟨(mz k).mpr (.inl hk), nk⟩;rw [e2] at this;cases this
      ·refine Classical.byContradiction fun nk => ?_;have : k ∈ gQ Z (stL ps u) := mem_off.mpr ⟨(mz k).mpr (.inr hk), nk⟩;rw [e1] at this;cases this
     have cz := (chk4.2 _ iz).2.2 z4;have inc := zGs (fun p => !qC (stL ps u) p) (fun p => !qC (stL ps v) p) F4;simp only [Bool.not_not] at inc;have e : (F4.filter fun p => qC (stL ps u) p && qC (stL ps v) p) = F4.filter (qC Z) := W6 fun p _ => by
      rw [Jp, Q5];unfold qC;rw [Jb, Jb, Jb];constructor
      ·rintro ⟨z1, z2⟩ k hk;have a1 := z1 k hk;have a2 := z2 k hk;simp at a1 a2 ⊢;exact fun z => ((mz k).mp z).elim a1 a2
      ·intro z;refine ⟨fun k hk => ?_, fun k hk => ?_⟩
       ·have := z k hk;simp at this ⊢;exact fun y => this ((mz k).mpr (.inl y))
       ·have := z k hk;simp at this ⊢;exact fun y => this ((mz k).mpr (.inr y))
     rw [e, chk4.1] at inc;have mm := meets (fun p => !qC (stL ps u) p && !qC (stL ps v) p) fun A hA => by rw [zac ok h5 r4 hA u0 u5, zac ok h5 r4 hA v0 v5]; rfl
     have au : (F4.filter fun p => qC (stL ps u) p).length = (F4.filter (qC (stL ps u))).length := rfl;have av : (F4.filter fun p => qC (stL ps v) p).length = (F4.filter (qC (stL ps v))).length := rfl;lia
  have en := ends ps (ups ps.length);rw [yP] at en;have g : ∀ v, (stL ps v).length = ((ups (ps.length : Int)).filter (gJ ps v)).length := fun _ => rfl;rw [<- g, <- g, <- g, <- g, <- g] at en;by_cases z0 : (stL ps 0).length <= 2
  ·exact low 0 (by decide) (by decide) z0
  ·by_cases a0 : (stL ps 0).length <= 3
   ·by_cases a1 : (stL ps 1).length <= 3
    ·exact two 0 1 (by decide) (by decide) (by decide) (by decide) (by decide) a0 a1
    ·by_cases a2 : (stL ps 2).length <= 3
     ·exact two 0 2 (by decide) (by decide) (by decide) (by decide) (by decide) a0 a2
     ·by_cases a3 : (stL ps 3).length <= 3
      ·exact two 0 3 (by decide) (by decide) (by decide) (by decide) (by decide) a0 a3
      ·exact two 0 4 (by decide) (by decide) (by decide) (by decide) (by decide) a0 (by lia)
   ·by_cases a1 : (stL ps 1).length <= 2
    ·exact low 1 (by decide) (by decide) a1
    ·by_cases a2 : (stL ps 2).length <= 2
     ·exact low 2 (by decide) (by decide) a2
     ·by_cases a3 : (stL ps 3).length <= 2
      ·exact low 3 (by decide) (by decide) a3
      ·by_cases a4 : (stL ps 4).length <= 2
       ·exact low 4 (by decide) (by decide) a4
       ·by_cases b1 : (stL ps 1).length <= 3
        ·by_cases b2 : (stL ps 2).length <= 3
         ·exact two 1 2 (by decide) (by decide) (by decide) (by decide) (by decide) b1 b2
         ·by_cases b3 : (stL ps 3).length <= 3
          ·exact two 1 3 (by decide) (by decide) (by decide) (by decide) (by decide) b1 b3
          ·exact two 1 4 (by decide) (by decide) (by decide) (by decide) (by decide) b1 (by lia)
        ·by_cases b2 : (stL ps 2).length <= 3
         ·by_cases b3 : (stL ps 3).length <= 3
          ·exact two 2 3 (by decide) (by decide) (by decide) (by decide) (by decide) b2 b3
          ·exact two 2 4 (by decide) (by decide) (by decide) (by decide) (by decide) b2 (by lia)
         ·exact two 3 4 (by decide) (by decide) (by decide) (by decide) (by decide) (by lia) (by lia)
 ·unfold zX zas;have e : ((zT n ps).toNat : Int) = zT n ps := by lia
  rw [e] at c;exact Js lt c
end
end My
namespace L2
open PySem PySem.W PyProof.Rows
section
variable {X : Cx}
theorem zmu {prog : Program} {w : World} {s : Shared} {vs : List Value} {kss : List (List Int)} (h : Paired (TupI s.heap) vs kss) (hne : 2 <= kss.length -> ∀ ks ∈ kss, ks ≠ []) : zEv prog w s (fun i j => HT.lexLt (kss.getD i []) (kss.getD j [])) vs := by
 by_cases h2 : 2 <= kss.length
 ·exact zft h (hne h2)
 ·intro A h' keep two;have := Paired.length h;exact absurd (show 2 <= kss.length by lia) h2
def zqd (K : W.Frag) : List V -> Hp -> VK -> Prop := fun xs H Q => ∃ (p : Addr) (rs : List V) (kss : List (List Int)), xs = [.ref p] /\ SqL K H p rs /\ rs.length < 64 /\ Paired (vK H) rs kss /\ (2 <= kss.length -> ∀ ks ∈ kss, ks ≠ []) /\
 ∀ (l : Addr) (rs' : List V) (kss' : List (List Int)), Paired (vK H) rs' kss' -> kss'.Perm kss -> kss'.Pairwise qN -> H l = none -> Q (.ref l) (upd H l (.lst rs'))
theorem zdx : xE X (.builtin "sorted") (zqd X.K) := by
 intro pins s σ H xs us Q I r h;obtain ⟨p, rs, kss, rfl, hp, hn, hk, hne, q⟩ := h;obtain ⟨u, rfl, ru⟩ := Vals.one r;cases (show u = Value.ref p from ru)
 obtain ⟨its, r1, t1, _⟩ := I.list hp;have hl : its.length = rs.length := r1.length.symm;have kl : rs.length = kss.length := Paired.length hk;have tup : ∀ i, i < rs.length -> ∃ a ks, rs.getD i .non = .ref a /\ kss.getD i [] = ks /\ its.getD i Value.none = .ref a /\ H a = some (.tup (ks.map V.int)) := fun i hi => by
  obtain ⟨ks, e, a, ea, ha⟩ := Paired.at hk (i := i) (a := rs[i]) (by simp [hi]);obtain ⟨v, ev, rv⟩ := r1.get (i := i) (x := rs[i]) (by simp [hi]);rw [ea] at rv;refine ⟨a, ks, by simp [hi, ea], by rw [Qd, e]; rfl, ?_, ha⟩;rw [Qd, ev];exact rv
 have tups : Paired (TupI s.heap) its kss := by
  have e1 := wI its Value.none;have e2 := wI kss [];rw [hl] at e1;rw [<- kl] at e2;rw [<- e1, <- e2];refine x6 fun i hi => ?_;obtain ⟨a, ks, _, e4, e5, e6⟩ := tup i (Q0.mp hi);obtain ⟨_, us, ru, o, g, hc, n, hd⟩ := I.hok a _ e6;rw [e4, e5];exact ⟨a, o, us.toArray, n, rfl, g, hc, hd, by simpa using qB ru⟩
 refine zbp t1.isList (zor kss) (by lia) (zmu tups hne) fun pm pb up => ?_;obtain ⟨e, he⟩ := sortedAll_at s.heap its (jZ its pm).toArray;have fr : s.heap.objs.size <= s.heap.objs.size + 1 := Ws _;have pl : ∀ i ∈ pm.toList, i < rs.length := fun i hi => by
  have := pb.list.mem_iff.mp hi;rw [Q0, hl] at this;exact this
 have ls : pm.toList.length = rs.length := by rw [Array.length_toList, pb.size, hl]
 refine ⟨.ref (s.heap.objs.size + 1), upd H (s.heap.objs.size + 1) (.lst (pm.toList.map fun i => rs.getD i .non)), I.laid (t' := s.toks) (fun b o z => sortedAll_old z) fr ?_, rfl,
  q _ _ (pm.toList.map fun i => kss.getD i []) (x6 fun i hi => ?_) ?_ ?_ (I.hok.fresh fr)⟩
 ·refine ⟨?_, jZ its pm, e, x6 fun i hi => ?_, he⟩
  ·rw [Qj, ls, sizeLine_eq]; lia
  ·obtain ⟨a, ks, e3, e4, e5, e6⟩ := tup i (pl i hi);rw [e3, e5];exact rfl
 ·obtain ⟨a, ks, e3, e4, e5, e6⟩ := tup i (pl i hi);rw [e3, e4];exact ⟨a, rfl, e6⟩
 ·have := pb.list.map fun i => kss.getD i [];rw [hl, kl, wI] at this;exact this
 ·rw [List.pairwise_iff_getElem];intro i j hi hj hij;rw [Qj] at hi hj;have := up i j (by lia) (by rw [hl]; lia);simp only [List.getElem_map, Array.getElem_toList];have gi : pm.getD i 0 = pm[i] := by simp [Array.getD, show i < pm.size by rw [<- Array.length_toList]; exact hi]
  have gj : pm.getD j 0 = pm[j] := by simp [Array.getD, show j < pm.size by rw [<- Array.length_toList]; exact hj]
  rw [gi, gj] at this;exact this
end
end L2
namespace My
open PySem L2
def gal (a : Nat) (ts : List Nat) : Nat -> Nat := if a = 0 then fn ts else phi ts
theorem zuf {a : Nat} {ts : List Nat} {m : Nat} (P : PermOn (fn ts) (2 * m)) : PermOn (gal a ts) (2 * m) := by
 unfold gal;split
 ·exact P
 ·exact P.phi
def alo (a x : Nat) : Nat := if a = 0 then x else mate x
theorem zyy (a : Nat) (ts : List Nat) (x : Nat) : fn ts (alo a x) = gal a ts x := by unfold gal alo; split <;> rfl
theorem zEh {a x m : Nat} (h : x < 2 * m) : alo a x < 2 * m := by
 unfold alo;split
 ·exact h
 ·exact zV h
theorem zEw : ∀ x ∈ List.range 16, ∀ a ∈ [0, 1], Builtin.bitXor ((x : Nat) : Int) ((a : Nat) : Int) = ((alo a x : Nat) : Int) := by decide +kernel
theorem zvc {x a : Nat} (hx : x < 16) (ha : a = 0 \/ a = 1) : Builtin.bitXor ((x : Nat) : Int) ((a : Nat) : Int) = ((alo a x : Nat) : Int) := zEw x (Q0.mpr hx) a (by rcases ha with rfl | rfl <;> simp)
def zjp : Sp := fun vs H Q _ => ∃ (lt : Addr) (ts : List Nat) (st a m : Nat), vs = [.ref lt, .int st, .int a] /\ H lt = some (.lst ((ci ts).map V.int)) /\ PermOn (fn ts) (2 * m) /\ ts.length = 2 * m /\ m <= 8 /\ st < 2 * m /\ (a = 0 \/ a = 1) /\ ∀ l H', Same H H' -> H l = none -> H' l = some (.lst ((ci (rnd (gal a ts) st)).map V.int)) -> Q (.ref l) H'
def zBi (p : Addr) (H H' : Hp) : Prop := ∀ b o, b ≠ p -> H b = some o -> H' b = some o
def zjr : Sp := fun vs H Q _ => ∃ (lt : Addr) (ts : List Nat) (e p : Nat), vs = [.ref lt, .int e, .int p] /\ H lt = some (.lst ((ci ts).map V.int)) /\ e < ts.length /\ p < ts.length /\ ∀ H', zBi lt H H' -> H' lt = some (.lst ((ci (yN ts e p)).map V.int)) -> Q (.ref lt) H'
section
variable {P : Program} {w : World} {K : W.Frag} {mg : Str -> Option Value} {base : Heap}
theorem scLRound : zL ["_law_turns", "_law_first", "_law_along", "_law_row", "_law_end"] ["_law_turns", "_law_first", "_law_along"] (zE zbv) := ⟨rfl, rfl, rfl, by decide +kernel, rfl, by decide +kernel, by decide +kernel⟩
theorem zur (S : Src K mg "_law_round" zbv ["_law_turns", "_law_first", "_law_along"]) : Def P w K mg base 1 "_law_round" ["_law_turns", "_law_first", "_law_along"] zjp := by
 refine S.def scLRound (fun vs H Q E h => ?_) (fun f cdv A outer s H vs Q E hr h => ?_)
 ·obtain ⟨_, _, _, _, _, rfl, _⟩ := h; rfl
 ·obtain ⟨lt, ts, st, a, m, rfl, hlt, PT, tl, m8, hs, ha, q⟩ := h;refine ⟨_, zD (zJ (i := 3) scLRound.nd rfl (Or.inl rfl) (xM (zA (pv 1) zB)))
   (zD (zJ (i := 4) scLRound.nd rfl (Or.inl rfl) (yO (yS K) (pv 0) (zQ zig (pv 1) (pv 2)) (fun _ _ => rfl)))
   (zD (kX PassesOwn.never (yF zih (pv 4) (pv 1) (yQ _))
    (zD (wV (k5 PySem.F.plainAttrs_list PySem.F.slot_list_append PySem.F.type_list_append zfc (pv 3) (zA (pv 4) zB)))
    (zG (zJ (i := 4) scLRound.nd rfl (Or.inl rfl) (yO (yS K) (pv 0) (zQ zig (pv 4) (pv 2)) (fun _ _ => rfl))))))
   (zG (zO (pv 3))))), ?_⟩
  have PG := zuf (a := a) PT;obtain ⟨p, pN, hp⟩ := PG.per hs;have pp := hp.pos;have next : ∀ x, x < 2 * m -> atI ((ci ts).map V.int) (Builtin.bitXor ((x : Nat) : Int) ((a : Nat) : Int)) = some (.int (gal a ts x : Nat)) := fun x hx => by
   rw [zvc (by lia) ha, <- zyy];exact zeh (by have := zEh (a := a) hx; lia)
  refine ⟨_, rfl, by show 1 <= sizeLine; decide, fun l hl => ?_⟩;have s0 := Same.new (o := HO.lst [.int (st : Int)]) hl;have h0 : (upd H l (.lst [.int (st : Int)])) l = some (.lst ((ci (wlk (gal a ts) st 0)).map V.int)) := zC;have hlt0 := s0 _ _ hlt;generalize upd H l (.lst [.int (st : Int)]) = H0 at s0 h0 hlt0 ⊢;dsimp only [List.set];refine ⟨_, rfl, _, rfl, _, rfl, _, _, rfl, rfl, lt, _, _, _, rfl, rfl, SqL.of hlt0, next st hs, ?_⟩;dsimp only [List.set];refine ⟨fun n σ H' => ∃ j, n + j = p /\ j + 1 <= p /\ σ = [some (.ref lt), some (.int (st : Int)), some (.int (a : Int)), some (.ref l), some (.int (itr (gal a ts) st (j + 1) : Nat))] /\ Same H H' /\ H' l = some (.lst ((ci (wlk (gal a ts) st j)).map V.int)), ⟨p, 0, rfl, by lia, rfl, s0, h0⟩, ?_⟩;rintro n σ H' ⟨j, mj, jp, rfl, sm, hl'⟩;refine ⟨_, rfl, _, rfl, rfl, _, rfl, ?_⟩;by_cases c : j + 1 = p
  ·rw [Q2 (show V.int ((itr (gal a ts) st (j + 1) : Nat) : Int) = V.int (st : Int) by rw [c, hp.back])];refine wL ⟨_, rfl, q l H' sm hl ?_⟩;rw [hl', show j = p - 1 by lia, znk hp]
  ·have ne := hp.no (j + 1) (by lia) (by lia);rw [Q8 (show ¬ V.int ((itr (gal a ts) st (j + 1) : Nat) : Int) = V.int (st : Int) from fun z => by injection z with z; exact ne (by lia))];refine jP ⟨fun σ' H2 => σ' = [some (.ref lt), some (.int (st : Int)), some (.int (a : Int)), some (.ref l), some (.int (itr (gal a ts) st (j + 2) : Nat))] /\ Same H H2 /\ H2 l = some (.lst ((ci (wlk (gal a ts) st (j + 1))).map V.int)), ?_, ?_⟩
   ·rintro σ' H2 ⟨rfl, s2, h2⟩;exact ⟨n - 1, by lia, j + 1, by lia, by lia, rfl, s2, h2⟩
   ·refine ⟨_, rfl, .inl ⟨rfl, _, SqL.of hl'⟩, _, rfl, l, _, _, rfl, rfl, hl', ?_, ?_⟩
    ·rw [Qj, xD];unfold wlk;rw [Qj, Jk];exact zbe (by lia)
    ·have s3 : Same H (upd H' l (.lst ((ci (wlk (gal a ts) st j)).map V.int ++ [.int (itr (gal a ts) st (j + 1) : Nat)]))) := Same.put84 sm hl;refine ⟨_, rfl, _, rfl, _, rfl, _, _, rfl, rfl, lt, _, _, _, rfl, rfl, SqL.of (s3 _ _ hlt), next _ (PG.itr_lt hs (j + 1)), rfl, s3, ?_⟩;rw [zC, zjc, zcn]
theorem zte : zL ["_law_turns", "_law_end", "_law_new"] ["_law_turns", "_law_end", "_law_new"] (zE zbx) := ⟨rfl, rfl, rfl, by decide +kernel, rfl, by decide +kernel, by decide +kernel⟩
theorem zxa {n i : Nat} (h : i < n) : ixN n (i : Int) = some i := by
 unfold ixN;rw [if_pos (by lia), if_pos (by lia), Q4]
theorem zuu (S : Src K mg "_law_behind" zbx ["_law_turns", "_law_end", "_law_new"]) : Def P w K mg base 1 "_law_behind" ["_law_turns", "_law_end", "_law_new"] zjr := by
 refine S.def zte (fun vs H Q E h => ?_) (fun f cdv A outer s H vs Q E hr h => ?_)
 ·obtain ⟨_, _, _, _, rfl, _⟩ := h; rfl
 ·obtain ⟨lt, ts, e, p, rfl, hlt, he, hp, q⟩ := h;refine ⟨_, zD (znb (yO (yS K) (pv 0) (pv 1) (fun _ _ => rfl)) (znc (pv 0) (pv 2) zcw))
   (zD (znb (pv 2) (znc (pv 0) (pv 1) zcw)) (zG (zO (pv 0)))), ?_⟩
  refine ⟨_, rfl, _, rfl, lt, _, _, _, rfl, rfl, SqL.of hlt, zeh he, _, rfl, _, rfl, lt, _, _, p, rfl, rfl, hlt, zxa (by rw [Qj, xD]; exact hp), ?_⟩;refine ⟨_, rfl, _, rfl, _, rfl, lt, _, _, e, rfl, rfl, zC, zxa (by rw [List.length_set, Qj, xD]; exact he), ?_⟩;refine ⟨_, rfl, q _ (fun b o hb eb => ?_) ?_⟩
  ·rw [zU hb, zU hb]; exact eb
  ·rw [zC];unfold yN ci fn;rw [List.map_set, List.map_set, List.map_set, List.map_set]
end
def zns : Sp := fun vs H Q _ => ∃ (lo : Addr) (ts : List Nat) (m : Nat) (c : Int), vs = [.ref lo, .int c] /\ H lo = some (.lst ((ci ts).map V.int)) /\ Drw ts m /\ m <= 7 /\ ∀ (l : Addr) (us : List Nat) (H' : Hp), Same H H' -> H' l = some (.lst ((ci us).map V.int)) -> Drw us (m + 1) -> Q (.ref l) H'
section
variable {P : Program} {w : World} {K : W.Frag} {mg : Str -> Option Value} {base : Heap}
theorem scGrown : zL ["_law_old", "_law_cell", "_law_many", "_law_p", "_law_q", "_law_turns", "_law_end", "_law_land", "_law_goal"] ["_law_old", "_law_cell"] (zE zia) := ⟨rfl, rfl, rfl, by decide +kernel, rfl, by decide +kernel, by decide +kernel⟩
theorem zzt (T : Txt K mg) (S : Src K mg "_law_grown" zia ["_law_old", "_law_cell"]) (DB : Def P w K mg base 1 "_law_behind" ["_law_turns", "_law_end", "_law_new"] zjr) (DR : Def P w K mg base 1 "_law_round" ["_law_turns", "_law_first", "_law_along"] zjp) : Def P w K mg base 2 "_law_grown" ["_law_old", "_law_cell"] zns := by
 refine S.def scGrown (fun vs H Q E h => ?_) (fun f cdv A outer s H vs Q E hr h => ?_)
 ·obtain ⟨_, _, _, _, rfl, _⟩ := h; rfl
 ·obtain ⟨lo, ts, m, c, rfl, hlo, D, m7, q⟩ := h;refine ⟨_, zD (zJ (i := 2) scGrown.nd rfl (Or.inl rfl) (zN (yL K) (by rfl) T.len PySem.boot_len (zA (pv 0) zB)))
   (zD (zJ (i := 3) scGrown.nd rfl (Or.inl rfl) (zQ xN (pv 2) (zQ wJ (pv 1) zF)))
   (zD (zJ (i := 4) scGrown.nd rfl (Or.inl rfl) (zQ zbd (zQ xN (pv 2) zF) (zQ wJ (pv 1) zF)))
   (zD (wU (yF qL (pv 2) zF (yQ _)) (zG (zO (yO (yS K) (xM (zA (xM (zA zF (zA zF zB))) (zA (xM (zA zF (zA zF zB))) zB))) (zQ wJ (zQ x0 (pv 1) zF) zF) (fun _ _ => rfl)))) xB)
   (zD (zJ (i := 5) scGrown.nd rfl (Or.inl rfl) (zQ zDd (zY (jT K) rfl T.list w5 (zA (pv 0) zB)) (xM (zA (pv 2) (zA (zQ xN (pv 2) zF) zB)))))
   (zD (zJ (i := 6) scGrown.nd rfl (Or.inl rfl) (zQ wJ (zQ x0 (pv 1) zF) (pv 2)))
   (zD (wU (yF qL (zQ wJ (zQ x0 (pv 1) zF) zF) zF (yQ _)) (zG (zO (zH DB hr rfl (zA (pv 5) (zA (pv 6) (zA (pv 3) zB)))))) xB)
   (zD (zJ (i := 7) scGrown.nd rfl (Or.inl rfl) (zH DR hr rfl (zA (pv 0) (zA (yO (yS K) (pv 0) (pv 6) (fun _ _ => rfl)) (zA zF zB)))))
   (zD (zJ (i := 8) scGrown.nd rfl (Or.inl rfl) (k5 PySem.F.plainAttrs_list PySem.F.slot_list_index PySem.F.type_list_index zqk (pv 0) (zA (yO (yS K) (pv 7) (zQ wJ (zQ x0 (pv 1) zF) (zN (yL K) (by rfl) T.len PySem.boot_len (zA (pv 7) zB))) (fun _ _ => rfl)) zB)))
   (zG (zO (zH DB hr rfl (zA (zH DB hr rfl (zA (pv 5) (zA (pv 6) (zA (pv 3) zB)))) (zA (pv 8) (zA (pv 4) zB)))))))))))))), ?_⟩
  have tl := D.len;have PT := D.perm;have md := jN c 2 (by decide);obtain ⟨pn, ep⟩ : ∃ pn : Nat, ((2 * m : Nat) : Int) + c % 2 = (pn : Int) := ⟨(((2 * m : Nat) : Int) + c % 2).toNat, by lia⟩;have pc : pn = 2 * m \/ pn = 2 * m + 1 := by lia
  have eq : ((2 * m : Nat) : Int) + 1 - c % 2 = ((mate pn : Nat) : Int) := by
   unfold mate;split <;> lia
  refine zK fun M hM => ?_;refine ⟨_, rfl, lo, _, rfl, .inl (SqL.of hlo), hM _ _ ?_⟩;clear hM M;rw [Qj, xD, tl];dsimp only [List.set];refine zK fun M hM => ?_;refine ⟨_, rfl, _, rfl, _, _, rfl, rfl, (by show (0 : Int) < 2; decide), _, _, rfl, rfl, hM _ _ ?_⟩;clear hM M;dsimp only [List.set];rw [ep];refine zK fun M hM => ?_;refine ⟨_, rfl, _, _, rfl, rfl, _, rfl, _, _, rfl, rfl, (by show (0 : Int) < 2; decide), _, _, rfl, rfl, hM _ _ ?_⟩;clear hM M;dsimp only [List.set];rw [eq];refine zK fun M hM => ?_;refine ⟨_, rfl, rfl, _, rfl, ?_⟩;by_cases m0 : m = 0
  ·clear hM;subst m0;rw [Q2 (show V.int ((2 * 0 : Nat) : Int) = V.int 0 from rfl)];refine jP ⟨by show 2 <= sizeLine; decide, fun l1 hl1 => ⟨by show 2 <= sizeLine; decide, fun l2 hl2 => ⟨by show 2 <= sizeLine; decide, fun l3 hl3 => ?_⟩⟩⟩;have s1 := Same.new (o := HO.lst [.int 0, .int 1]) hl1;have s2 := Same.new (o := HO.lst [.int 1, .int 0]) hl2;have s3 := Same.new (o := HO.lst [.ref l1, .ref l2]) hl3;have g1 := s3 _ _ (s2 _ _ (zC (H := H) (a := l1) (o := HO.lst [.int 0, .int 1])));have g2 := s3 _ _ (zC (H := upd H l1 (.lst [.int 0, .int 1])) (a := l2) (o := HO.lst [.int 1, .int 0]));have g3 : (upd (upd (upd H l1 (.lst [.int 0, .int 1])) l2 (.lst [.int 1, .int 0])) l3 (.lst [.ref l1, .ref l2])) l3 = some (.lst [.ref l1, .ref l2]) := zC;have s123 := s1.trans (s2.trans s3);generalize upd (upd (upd H l1 (.lst [.int 0, .int 1])) l2 (.lst [.int 1, .int 0])) l3 (.lst [.ref l1, .ref l2]) = H3 at g1 g2 g3 s123 ⊢;have md2 := jN (c / 2) 2 (by decide);refine ⟨_, rfl, _, _, rfl, rfl, ⟨by decide, by decide⟩, _, _, rfl, rfl, (by show (0 : Int) < 2; decide), ?_⟩;have : c / 2 % 2 = 0 \/ c / 2 % 2 = 1 := by lia
   rcases this with e | e
   ·refine ⟨l3, _, _, _, rfl, rfl, SqL.of g3, by rw [e]; exact yC (j := 0) rfl, q l1 [0, 1] H3 s123 g1 zFu⟩
   ·refine ⟨l3, _, _, _, rfl, rfl, SqL.of g3, by rw [e]; exact yC (j := 1) rfl, q l2 [1, 0] H3 s123 g2 zFt⟩
  ·rw [Q8 (show ¬ V.int ((2 * m : Nat) : Int) = V.int 0 from fun z => by injection z with z; lia)];refine wL (hM _ _ ?_);clear hM M;refine zK fun M hM => ?_;refine ⟨_, rfl, lo, _, rfl, .inl (SqL.of hlo), fun l1 hl1 => ?_⟩;have s1 := Same.new (o := HO.lst ((ci ts).map V.int)) hl1;refine ⟨_, rfl, _, rfl, _, _, rfl, rfl, by show 2 <= sizeLine; decide, fun l2 hl2 => ?_⟩;have s2 := Same.new (o := HO.lst [.int ((2 * m : Nat) : Int), .int (((2 * m : Nat) : Int) + 1)]) hl2;refine ⟨l1, l2, _, _, rfl, rfl, s2 _ _ zC, zC, J9 (zbe (by rw [Qj, xD]; show ts.length + 2 <= 300; lia)), fun l3 hl3 => hM _ _ ?_⟩;clear hM M;have e2 : (ci ts).map V.int ++ [.int ((2 * m : Nat) : Int), .int (((2 * m : Nat) : Int) + 1)] = (ci (two ts)).map V.int := by
    unfold two ci;rw [Qu, Qu, tl];rfl
   rw [e2];have s3 := Same.new (o := HO.lst ((ci (two ts)).map V.int)) hl3;have h3 : (upd (upd (upd H l1 (.lst ((ci ts).map V.int))) l2 (.lst [.int ((2 * m : Nat) : Int), .int (((2 * m : Nat) : Int) + 1)])) l3 (.lst ((ci (two ts)).map V.int))) l3 = some (.lst ((ci (two ts)).map V.int)) := zC;have s123 := s1.trans (s2.trans s3);have l3H := qG (s1.trans s2) hl3;generalize upd (upd (upd H l1 (.lst ((ci ts).map V.int))) l2 (.lst [.int ((2 * m : Nat) : Int), .int (((2 * m : Nat) : Int) + 1)])) l3 (.lst ((ci (two ts)).map V.int)) = H3 at h3 s123 ⊢;have md8 := jN (c / 8) ((2 * m : Nat) : Int) (by lia);obtain ⟨en, ee⟩ : ∃ en : Nat, c / 8 % ((2 * m : Nat) : Int) = (en : Int) := ⟨(c / 8 % ((2 * m : Nat) : Int)).toNat, by lia⟩;rw [ee] at md8;have he : en < 2 * m := by lia
   refine zK fun M hM => ?_;refine ⟨_, rfl, _, _, rfl, rfl, ⟨by decide, by decide⟩, _, rfl, _, _, rfl, rfl, (by show (0 : Int) < ((2 * m : Nat) : Int); lia), hM _ _ ?_⟩;clear hM M;dsimp only [List.set];rw [ee];have t2 := jF ts;have toS : ∀ {H4 : Hp}, zBi l3 H3 H4 -> Same H H4 := fun b x o e => b x o (zP e l3H) (s123 _ _ e);refine zK fun M hM => ?_;refine ⟨_, rfl, _, _, rfl, rfl, ⟨by decide, by decide⟩, _, _, rfl, rfl, (by show (0 : Int) < 4; decide), rfl, _, rfl, ?_⟩;refine zdt (fun _ => ?_) (fun _ => hM _ _ ?_)
   ·refine ⟨_, rfl, _, rfl, _, rfl, l3, two ts, en, pn, rfl, h3, by lia, by lia, fun H4 b4 h4 => ?_⟩;exact q l3 _ H4 (toS b4) h4 (zFr D (by lia) he pc)
   ·clear hM M;have hlo3 := s123 _ _ hlo;refine zK fun M hM => ?_;refine ⟨_, rfl, _, rfl, _, rfl, lo, _, _, _, rfl, rfl, SqL.of hlo3, zeh (by lia), lo, ts, fn ts en, 1, m, rfl, hlo3, PT, tl, by lia, PT.lt en he, .inr rfl, fun l5 H5 s5 hl5 h5 => hM _ _ ?_⟩;clear hM M;have eg : gal 1 ts = phi ts := rfl;rw [eg] at h5;have hfe := PT.lt en he;obtain ⟨lr, elr⟩ := zvs PT.phi hfe;have rpos : 0 < (rnd (phi ts) (fn ts en)).length := by rw [elr]; exact Nat.succ_pos _
    have md128 := jN (c / 128) ((rnd (phi ts) (fn ts en)).length : Int) (by lia);obtain ⟨kn, ek⟩ : ∃ kn : Nat, c / 128 % ((rnd (phi ts) (fn ts en)).length : Int) = (kn : Int) := ⟨(c / 128 % ((rnd (phi ts) (fn ts en)).length : Int)).toNat, by lia⟩;rw [ek] at md128;have kl : kn < (rnd (phi ts) (fn ts en)).length := by lia
    have vm : (rnd (phi ts) (fn ts en))[kn] ∈ rnd (phi ts) (fn ts en) := Wc kl;have vc := (wO PT.phi hfe).mp vm;have vl := (zdj PT.phi vc).1.mp hfe;obtain ⟨g, hg, eg2⟩ := PT.sur vl;have at5 : atI ((ci (rnd (phi ts) (fn ts en))).map V.int) (kn : Int) = some (.int ((rnd (phi ts) (fn ts en))[kn] : Nat)) := by
     refine yC (j := kn) ?_;unfold ci;simp [kl]
    have gi : (ci ts)[g]? = some (((rnd (phi ts) (fn ts en))[kn] : Nat) : Int) := by
     rw [<- eg2];unfold ci fn;simp [show g < ts.length by lia]
    have gn : ∀ j, j < g -> (ci ts)[j]? ≠ some (((rnd (phi ts) (fn ts en))[kn] : Nat) : Int) := fun j hj z => by
     have jl : j < ts.length := by lia
     have : (ci ts)[j]? = some ((fn ts j : Nat) : Int) := by unfold ci fn; simp [jl]
     rw [this] at z;have z2 : ((fn ts j : Nat) : Int) = (((rnd (phi ts) (fn ts en))[kn] : Nat) : Int) := Option.some.inj z;have := PT.inj j g (by lia) hg (by rw [eg2]; lia);lia
    have hlo5 := s5 _ _ hlo3;refine zK fun M hM => ?_;refine ⟨_, rfl, .inl ⟨rfl, _, SqL.of hlo5⟩, _, rfl, _, rfl, _, _, rfl, rfl, ⟨by decide, by decide⟩, _, rfl, l5, _, rfl, .inl (SqL.of h5), ?_⟩;rw [Qj, xD];refine ⟨_, _, rfl, rfl, (by show (0 : Int) < ((rnd (phi ts) (fn ts en)).length : Int); lia), ?_⟩;dsimp only;rw [ek];refine ⟨l5, _, _, _, rfl, rfl, SqL.of h5, at5, lo, ci ts, _, g, rfl, rfl, hlo5, by rw [xD]; lia, gi, gn, hM _ _ ?_⟩;clear hM M;have h35 := s5 _ _ h3;refine ⟨_, rfl, _, rfl, _, rfl, l3, two ts, en, pn, rfl, h35, by lia, by lia, fun H6 b6 h6 => ?_⟩;have bl := xP (two ts) en pn;have mp : mate pn = 2 * m \/ mate pn = 2 * m + 1 := by unfold mate; split <;> lia
    refine ⟨_, rfl, _, rfl, l3, yN (two ts) en pn, g, mate pn, rfl, h6, by lia, by lia, fun H7 b7 h7 => ?_⟩;have sm : Same H H7 := fun x o e => by
     have nx := zP e l3H;exact b7 x o nx (b6 x o nx (s5 _ _ (s123 _ _ e)))
    refine q l3 _ H7 sm h7 (zFq D (by lia) he hg pc ?_);rw [eg2];exact vc
end
def bb (R : Int) (k : Nat) : Nat := (R / 2 ^ k % 2).toNat
theorem zsj (R : Int) (k : Nat) : Builtin.bitAnd (R / 2 ^ ((k : Int)).toNat) 1 = ((bb R k : Nat) : Int) /\ (bb R k = 0 \/ bb R k = 1) := by
 rw [PyProof.Rows.bitAnd_m1, Q4];have := jN (R / 2 ^ k) 2 (by decide);unfold bb;generalize R / 2 ^ k % 2 = z at this;exact ⟨by lia, by lia⟩
def tau (ord : List Nat) (R : Int) (x : Nat) : Nat := 2 * ord.getD (x / 2) 0 + alo (bb R (x / 2)) x % 2
theorem zco {b x : Nat} (hb : b = 0 \/ b = 1) : alo b x % 2 = (x + b) % 2 := by
 rcases hb with rfl | rfl
 ·rfl
 ·show mate x % 2 = _;unfold mate;split <;> lia
section
variable {ord : List Nat} {R : Int} {m : Nat}
theorem zCx (pm : ord.Perm (List.range m)) {k : Nat} (hk : k < m) : ord.getD k 0 < m := by
 have kl : k < ord.length := by rw [pm.length_eq, Jk]; exact hk
 rw [Qd, Q9 kl];exact Q0.mp (pm.mem_iff.mp (Wc kl))
theorem zvh (pm : ord.Perm (List.range m)) {x : Nat} (hx : x < 2 * m) : tau ord R x < 2 * m := by
 have := zCx pm (k := x / 2) (by lia);unfold tau;lia
theorem zsu (x : Nat) : tau ord R (mate x) = mate (tau ord R x) := by
 have h2 : mate x / 2 = x / 2 := by unfold mate; split <;> lia
 have hb := (zsj R (x / 2)).2;unfold tau;rw [h2, zco hb, zco hb];generalize ord.getD (x / 2) 0 = o;generalize bb R (x / 2) = b at hb;unfold mate;split <;> split <;> lia
theorem zjh (pm : ord.Perm (List.range m)) : PermOn (tau ord R) (2 * m) := by
 refine ⟨fun x hx => zvh pm hx, fun x y hx hy e => ?_⟩;have bx := (zsj R (x / 2)).2;have hby := (zsj R (y / 2)).2;unfold tau at e;rw [zco bx, zco hby] at e;have eo : ord.getD (x / 2) 0 = ord.getD (y / 2) 0 := by lia
 have lx : x / 2 < ord.length := by rw [pm.length_eq, Jk]; lia
 have ly : y / 2 < ord.length := by rw [pm.length_eq, Jk]; lia
 have exy : x / 2 = y / 2 := by
  rw [Qd, Q9 lx, Qd, Q9 ly] at eo;have nd : ord.Nodup := pm.nodup_iff.mpr List.nodup_range;refine Classical.byContradiction fun hn => ?_;have pw := List.pairwise_iff_getElem.mp (Wu.mp nd);by_cases c : x / 2 < y / 2
  ·exact pw _ _ lx ly c eo
  ·exact pw _ _ ly lx (by lia) eo.symm
 rw [exy] at e bx;lia
end
def zbo : Sp := fun vs H Q _ => ∃ (lo : Addr) (ts : List Nat) (m : Nat) (c : Int), vs = [.ref lo, .int c] /\ H lo = some (.lst ((ci ts).map V.int)) /\ Drw ts m /\ m <= 8 /\ ∀ (l : Addr) (us : List Nat) (H' : Hp), Same H H' -> H' l = some (.lst ((ci us).map V.int)) -> Drw us m -> Q (.ref l) H'
section
variable {P : Program} {w : World} {K : W.Frag} {mg : Str -> Option Value} {base : Heap}
theorem scNumbered : zL ["_law_turns", "_law_cell", "_law_row", "_law_rest_here", "_law_k", "_law_made", "_law_end", "_law_after", "_law_new"] ["_law_turns", "_law_cell"] (zE q8) := ⟨rfl, rfl, rfl, by decide +kernel, rfl, by decide +kernel, by decide +kernel⟩
theorem zmm (T : Txt K mg) (henum : mg "enumerate" = none) (S : Src K mg "_law_numbered" q8 ["_law_turns", "_law_cell"]) : Def P w K mg base 1 "_law_numbered" ["_law_turns", "_law_cell"] zbo := by
 refine S.def scNumbered (fun vs H Q E h => ?_) (fun f cdv A outer s H vs Q E hr h => ?_)
 ·obtain ⟨_, _, _, _, rfl, _⟩ := h; rfl
 ·obtain ⟨lo, ts, m, c, rfl, hlo, D, m8, q⟩ := h;refine ⟨_, zD (zJ (i := 2) scNumbered.nd rfl (Or.inl rfl) (xM zB))
   (zD (zJ (i := 3) scNumbered.nd rfl (Or.inl rfl) (pv 1))
   (zD (wG PassesOwn.never rfl (xY rfl T.range (zA (zQ x0 (zN (yL K) (by rfl) T.len PySem.boot_len (zA (pv 0) zB)) zF) zB)) (zI (i := 4) scNumbered.nd rfl (Or.inl rfl))
    (zD (wV (k5 PySem.F.plainAttrs_list PySem.F.slot_list_insert PySem.F.type_list_insert zfb (pv 2) (zA (zQ wJ (pv 3) (zQ xN (pv 4) zF)) (zA (pv 4) zB))))
    (zG (zJ (i := 3) scNumbered.nd rfl (Or.inl rfl) (zQ ztq (pv 3) (zQ xN (pv 4) zF))))))
   (zD (zJ (i := 5) scNumbered.nd rfl (Or.inl rfl) (zQ zCz (xM (zA zF zB)) (zN (yL K) (by rfl) T.len PySem.boot_len (zA (pv 0) zB))))
   (zD (wG PassesOwn.never rfl (zcy K .l rfl henum (zA (pv 0) zB)) (wC K 2 rfl (zW (zI (i := 6) scNumbered.nd rfl (Or.inl rfl)) (zW (zI (i := 7) scNumbered.nd rfl (Or.inl rfl)) wB)))
    (zD (zJ (i := 8) scNumbered.nd rfl (Or.inl rfl) (zQ xN (zQ zdr zF (yO (yS K) (pv 2) (zQ x0 (pv 6) zF) (fun _ _ => rfl))) (zQ wJ (zQ zig (pv 6) (zQ zne (zQ znd (pv 3) (zQ x0 (pv 6) zF)) zF)) zF)))
    (zG (znb (zQ xN (zQ zdr zF (yO (yS K) (pv 2) (zQ x0 (pv 7) zF) (fun _ _ => rfl))) (zQ wJ (zQ zig (pv 7) (zQ zne (zQ znd (pv 3) (zQ x0 (pv 7) zF)) zF)) zF)) (znc (pv 5) (pv 8) zcw)))))
   (zG (zO (pv 5))))))), ?_⟩
  have tl := D.len;have PT := D.perm;refine zK fun M hM => ?_;refine ⟨Jj _, fun g hg => hM _ _ ?_⟩;clear hM M;have s0 := Same.new (o := HO.lst []) hg;have g0 : (upd H g (.lst [])) g = some (.lst ((ci []).map V.int)) := zC;generalize upd H g (.lst []) = H1 at s0 g0 ⊢;dsimp only [List.set];refine zK fun M hM => ?_;refine ⟨_, rfl, hM _ _ ?_⟩;clear hM M;refine zK fun M hM => ?_;refine ⟨_, rfl, lo, _, rfl, .inl (SqL.of (s0 _ _ hlo)), _, _, rfl, rfl, ⟨by decide, by decide⟩, _, rfl, ?_⟩;rw [Qj, xD, tl, show ((2 * m : Nat) : Int) / 2 = (m : Int) by lia];refine ⟨by lia, by lia, ?_⟩;rw [Q4];refine zah (lo := 0) (n := m) (fun j σ H' => (∃ (z : Int) (u : Option V), σ = [some (.ref lo), some (.int c), some (.ref g), some (.int z), u, none, none, none, none]) /\ Same H H' /\ ∃ ord : List Nat, H' g = some (.lst ((ci ord).map V.int)) /\ ord.Perm (List.range j)) ⟨⟨c, _, rfl⟩, s0, [], g0, List.Perm.refl _⟩ ?_ ?_
  ·rintro j σ H2 hj ⟨⟨z, u, rfl⟩, sm, ord, ho, pm⟩;have ol : ord.length = j := by rw [pm.length_eq, Jk]
   rw [show (0 : Int) + (j : Int) = (j : Int) by lia];dsimp only [yB, List.set];refine ⟨_, rfl, .inl ⟨rfl, _, SqL.of ho⟩, _, rfl, _, rfl, _, _, rfl, rfl, _, _, rfl, rfl, (by show (0 : Int) < (j : Int) + 1; lia), _, rfl, ?_⟩;have hz := jN z ((j : Int) + 1) (by lia);obtain ⟨i, hi⟩ := Wb hz.1;have il : i <= j := by lia
   refine ⟨g, (ci ord).map V.int, i, .int j, rfl, ?_, ho, by rw [Qj, xD]; lia, by rw [Qj, xD]; lia, ?_⟩
   ·show [V.int (z % ((j : Int) + 1)), V.int (j : Int)] = [V.int (i : Int), V.int (j : Int)];rw [hi]
   refine ⟨_, rfl, _, rfl, _, _, rfl, rfl, _, _, rfl, rfl, ⟨by lia, ?_⟩, ⟨_, _, rfl⟩, Same.put84 sm hg, ord.take i ++ j :: ord.drop i, ?_, ?_⟩
   ·have : ((j : Int) + 1).natAbs < 2 ^ 9000 := Js (show ((j : Int) + 1).natAbs <= 2 ^ 10 by lia) (Nat.pow_lt_pow_right (by decide) (by decide));exact (Nat.log2_lt (by lia)).mpr this
   ·rw [zC];unfold ci;rw [Qu, Qu, Qm, Qm, List.map_take, List.map_drop, List.map_take, List.map_drop]
   ·rw [Wv];refine List.perm_middle.trans ?_;rw [List.take_append_drop];exact (pm.cons _).trans (List.perm_append_singleton _ _).symm
  rintro σ H2 ⟨⟨R, u, rfl⟩, s2, ord, ho, pm⟩;refine hM _ _ ?_;clear hM M;have ol : ord.length = m := by rw [pm.length_eq, Jk]
  have gH := hg;have num : ∀ (H' : Hp), H' g = some (.lst ((ci ord).map V.int)) -> ∀ x : Nat, x < 2 * m -> atI ((ci ord).map V.int) ((x : Int) / 2) = some (.int (ord.getD (x / 2) 0 : Nat)) /\ Builtin.bitXor ((x : Nat) : Int) (Builtin.bitAnd (R / 2 ^ ((x : Int) / 2).toNat) 1) % 2 = ((alo (bb R (x / 2)) x % 2 : Nat) : Int) := fun H' _ x hx => by
   have e : (x : Int) / 2 = ((x / 2 : Nat) : Int) := by lia
   rw [e];obtain ⟨b1, b2⟩ := zsj R (x / 2);refine ⟨zeh (by lia), ?_⟩;rw [b1, zvc (by lia) b2];lia
  refine zK fun M hM => ?_;refine ⟨by show 1 <= sizeLine; decide, fun p1 hp1 => ?_⟩;have s3 := s2.trans (Same.new (o := HO.lst [.int 0]) hp1);have ho3 := Same.new (o := HO.lst [.int 0]) hp1 _ _ ho;refine ⟨_, rfl, lo, _, rfl, .inl (SqL.of (s3 _ _ hlo)), ?_⟩;rw [Qj, xD, tl];refine ⟨p1, _, _, rfl, rfl, zC, by lia, by lia, ?_, fun lm hlm => hM _ _ ?_⟩
  ·rw [Q4];show 1 * (2 * m) <= sizeLine;exact J9 (zbe (by lia))
  clear hM M;have er : (List.replicate ((2 * m : Nat) : Int).toNat [V.int 0]).flatten = (ci (List.replicate (2 * m) 0)).map V.int := by
   rw [Q4];unfold ci;generalize 2 * m = n
   induction n with
   | zero => rfl
   | succ n ih => rw [Wp, Wp, List.flatten_cons, ih]; rfl
  rw [er];have s4 := s3.trans (Same.new (o := HO.lst ((ci (List.replicate (2 * m) 0)).map V.int)) hlm);have ho4 := Same.new (o := HO.lst ((ci (List.replicate (2 * m) 0)).map V.int)) hlm _ _ ho3;have hm4 : (upd (upd H2 p1 (.lst [.int 0])) lm (.lst ((ci (List.replicate (2 * m) 0)).map V.int))) lm = some (.lst ((ci (List.replicate (2 * m) 0)).map V.int)) := zC;have lmH := qG s3 hlm;have glm : g ≠ lm := zP ho3 hlm;generalize upd (upd H2 p1 (.lst [.int 0])) lm (.lst ((ci (List.replicate (2 * m) 0)).map V.int)) = H4 at s4 ho4 hm4 ⊢;dsimp only [List.set];refine zK fun M hM => ?_;refine ⟨_, rfl, lo, _, rfl, SqL.of (s4 _ _ hlo), zlc (k := .l) (K := K) (a := lo) (xs := (ci ts).map V.int) (fun i σ H' => (∃ u v z, σ = [some (.ref lo), some (.int c), some (.ref g), some (.int R), u, some (.ref lm), v, z.1, z.2]) /\ Same H H' /\ H' g = some (.lst ((ci ord).map V.int)) /\ ∃ us : List Nat, H' lm = some (.lst ((ci us).map V.int)) /\ us.length = 2 * m /\ ∀ e, e < i -> fn us (tau ord R e) = tau ord R (fn ts e)) ⟨⟨_, _, (_, _), rfl⟩, s4, ho4, _, hm4, by rw [List.length_replicate], fun e he => absurd he (Nat.not_lt_zero e)⟩ (fun i σ H' _ z => SqL.of (z.2.1 _ _ hlo)) ?_ ?_⟩
  ·rintro i x p σ H5 hxi ⟨⟨u, v, ⟨z1, z2⟩, rfl⟩, s5, ho5, us, hm5, ul, inv⟩ hp;obtain ⟨af, ea, rfl⟩ := zdb hxi;have il : i < 2 * m := by have := (Qf.mp ea).1; lia
   have eaf : fn ts i = af := by unfold fn; rw [Qd, ea]; rfl
   have afl : af < 2 * m := by rw [<- eaf]; exact PT.lt i il
   have s6 := Same.new (o := HO.tup [.int (i : Int), .int (af : Int)]) hp;refine ⟨p, _, rfl, SqT.of zC, rfl, _, _, rfl, _, _, rfl, rfl, ?_⟩;have ho6 := s6 _ _ ho5;have hm6 := s6 _ _ hm5;have s56 := s5.trans s6;generalize upd H5 p (.tup [.int (i : Int), .int (af : Int)]) = H6 at ho6 hm6 s56 ⊢;dsimp only [List.set];obtain ⟨a1, a2⟩ := num H6 ho6 i il;obtain ⟨b1, b2⟩ := num H6 ho6 af afl;have e1 : 2 * ((ord.getD (i / 2) 0 : Nat) : Int) + ((alo (bb R (i / 2)) i % 2 : Nat) : Int) = ((tau ord R i : Nat) : Int) := by unfold tau; lia
   have e2 : 2 * ((ord.getD (af / 2) 0 : Nat) : Int) + ((alo (bb R (af / 2)) af % 2 : Nat) : Int) = ((tau ord R af : Nat) : Int) := by unfold tau; lia
   refine zK fun M hM => ?_;refine ⟨_, rfl, _, rfl, _, _, rfl, rfl, ⟨by decide, by decide⟩, g, _, _, _, rfl, rfl, SqL.of ho6, a1, _, _, rfl, rfl, .inl ⟨by decide, by decide⟩, _, rfl, _, rfl, _, rfl, _, _, rfl, rfl, ⟨by decide, by decide⟩, _, _, rfl, rfl, (by show (0 : Int) <= (i : Int) / 2; lia), _, _, rfl, rfl, _, _, rfl, rfl, _, _, rfl, rfl, (by show (0 : Int) < 2; decide), _, _, rfl, rfl, hM _ _ ?_⟩;clear hM M;dsimp only [List.set];rw [a2, e1];have tlt := zvh (R := R) pm il;refine ⟨_, rfl, _, rfl, _, _, rfl, rfl, ⟨by decide, by decide⟩, g, _, _, _, rfl, rfl, SqL.of ho6, b1, _, _, rfl, rfl, .inl ⟨by decide, by decide⟩, _, rfl, _, rfl, _, rfl, _, _, rfl, rfl, ⟨by decide, by decide⟩, _, _, rfl, rfl, (by show (0 : Int) <= (af : Int) / 2; lia), _, _, rfl, rfl, _, _, rfl, rfl, _, _, rfl, rfl, (by show (0 : Int) < 2; decide), _, _, rfl, rfl, _, rfl, _, rfl, lm, _, _, tau ord R i, rfl, rfl, hm6, zxa (by rw [Qj, xD]; lia), ?_⟩;rw [b2];dsimp only;rw [e2];refine ⟨⟨_, _, (_, _), rfl⟩, Same.put84 s56 lmH, by rw [zU glm]; exact ho6, us.set (tau ord R i) (tau ord R af), ?_, by rw [List.length_set]; exact ul, fun e he => ?_⟩
   ·rw [zC];unfold ci;rw [List.map_set, List.map_set]
   ·unfold fn;rw [Qd];by_cases ce : e = i
    ·rw [ce, W4 (by lia)];show tau ord R af = tau ord R (fn ts i);rw [eaf]
    ·have ne : tau ord R i ≠ tau ord R e := fun z => ce ((zjh (R := R) pm).inj _ _ (by lia) il z.symm);rw [List.getElem?_set_ne ne, <- Qd];exact inv e (by lia)
  rintro σ H5 ⟨⟨u, v, ⟨z1, z2⟩, rfl⟩, s5, ho5, us, hm5, ul, inv⟩;refine hM _ _ ?_;rw [Qj, xD, tl] at inv;exact ⟨_, rfl, q lm us H5 s5 hm5 (zFf D ul (zjh pm) (fun x _ => zsu x) inv)⟩
end
def znr (K : W.Frag) : Sp := fun vs H Q _ => ∃ (a : Addr) (ns : List Int) (m : Nat), vs = [.ref a, .int m] /\ SqL K H a (ns.map V.int) /\ m <= 8 /\ ∀ (l : Addr) (ord : List Int) (H' : Hp), Same H H' -> H' l = some (.lst (ord.map V.int)) -> ord.Perm (ups m) -> Q (.ref l) H'
def zvj : Sp := fun vs H Q _ => ∃ (b : Int) (m : Nat), vs = [.int b, .int m] /\ m <= 8 /\ ∀ t H', Same H H' -> H' t = some (.tup ((pkB b m).map V.int)) -> Q (.ref t) H'
def zvi (K : W.Frag) : Sp := fun vs H Q _ => ∃ (pk : Addr) (ks : List Int) (m : Nat), vs = [.ref pk, .int m] /\ SqT K H pk (ks.map V.int) /\ m <= 8 /\ ∀ t H', Same H H' -> H' t = some (.tup ((rs m ks).map V.int)) -> Q (.ref t) H'
section
variable {P : Program} {w : World} {K : W.Frag} {mg : Str -> Option Value} {base : Heap}
theorem scOrder : zL ["_law_script", "_law_many", "_law_order_here", "_law_k"] ["_law_script", "_law_many"] (zE zhw) := ⟨rfl, rfl, rfl, by decide +kernel, rfl, by decide +kernel, by decide +kernel⟩
theorem zzo (T : Txt K mg) (S : Src K mg "_law_order" zhw ["_law_script", "_law_many"]) (DA : Def P w K mg base 1 "_law_at" ["_law_script", "_law_k"] (zEl K)) : Def P w K mg base 2 "_law_order" ["_law_script", "_law_many"] (znr K) := by
 refine S.def scOrder (fun vs H Q E h => ?_) (fun f cdv A outer s H vs Q E hr h => ?_)
 ·obtain ⟨_, _, _, rfl, _⟩ := h; rfl
 ·obtain ⟨a, ns, m, rfl, hq, m8, q⟩ := h;refine ⟨_, zD (zJ (i := 2) scOrder.nd rfl (Or.inl rfl) (xM zB))
   (zD (wG PassesOwn.never rfl (xY rfl T.range (zA (pv 1) zB)) (zI (i := 3) scOrder.nd rfl (Or.inl rfl))
    (zG (wV (k5 PySem.F.plainAttrs_list PySem.F.slot_list_insert PySem.F.type_list_insert zfb (pv 2) (zA (zQ wJ (zH DA hr rfl (zA (pv 0) (zA (zQ xN zF (pv 3)) zB))) (zQ xN (pv 3) zF)) (zA (pv 3) zB))))))
   (zG (zO (pv 2)))), ?_⟩
  refine ⟨Jj _, fun g hg => ?_⟩;have s0 := Same.new (o := HO.lst []) hg;have g0 : (upd H g (.lst [])) g = some (.lst (([] : List Int).map V.int)) := zC;generalize upd H g (.lst []) = H1 at s0 g0 ⊢;refine ⟨_, rfl, (m : Int), rfl, by omega, by omega, ?_⟩;rw [Q4];refine zah (lo := 0) (n := m) (fun j σ H' => (∃ u, σ = [some (.ref a), some (.int m), some (.ref g), u]) /\ Same H H' /\ ∃ ord : List Int, H' g = some (.lst (ord.map V.int)) /\ ord.Perm (ups j)) ⟨⟨_, rfl⟩, s0, [], g0, List.Perm.refl _⟩ ?_ ?_
  ·rintro j σ H2 hj ⟨⟨u, rfl⟩, sm, ord, ho, pm⟩;have ol : ord.length = j := by rw [pm.length_eq, yP]; omega
   rw [show (0 : Int) + (j : Int) = (j : Int) by omega];dsimp only [yB, List.set];refine ⟨_, rfl, .inl ⟨rfl, _, SqL.of ho⟩, _, rfl, _, rfl, _, _, rfl, rfl, a, ns, 9 + j, ?_, sm.seq hq, _, rfl, _, _, rfl, rfl, _, _, rfl, rfl, (by show (0 : Int) < (j : Int) + 1; omega), _, rfl, ?_⟩
   ·show [V.ref a, V.int (9 + (j : Int))] = [V.ref a, V.int ((9 + j : Nat) : Int)];rw [Int.natCast_add];rfl
   generalize ns.getD (9 + j) 0 = z0;have hz := jN z0 ((j : Int) + 1) (by omega);obtain ⟨i, hi⟩ := Wb hz.1;refine ⟨g, ord.map V.int, i, .int j, rfl, ?_, ho, by rw [Qj]; omega, by rw [Qj]; omega, ?_⟩
   ·show [V.int (z0 % ((j : Int) + 1)), V.int (j : Int)] = [V.int (i : Int), V.int (j : Int)];rw [hi]
   refine ⟨⟨_, rfl⟩, zex sm hg, ord.take i ++ (j : Int) :: ord.drop i, ?_, ?_⟩
   ·rw [zC, Qu, Qm, List.map_take, List.map_drop]
   ·have e1 : ups ((j + 1 : Nat) : Int) = ups j ++ [(j : Int)] := by rw [show ((j + 1 : Nat) : Int) = (j : Int) + 1 by omega, vY (by omega)]
    rw [e1];refine List.perm_middle.trans ?_;rw [List.take_append_drop];exact (pm.cons _).trans (List.perm_append_singleton _ _).symm
  ·rintro σ H2 ⟨⟨u, rfl⟩, sm, ord, ho, pm⟩;exact ⟨_, rfl, q g ord H2 sm ho pm⟩
theorem zBz : zL ["_law_mask", "_law_many"] ["_law_mask", "_law_many"] (zE zrw) := ⟨rfl, rfl, rfl, by decide +kernel, rfl, by decide +kernel, by decide +kernel⟩
theorem zHu : (["_law_k", "_law_mask"] : List Str).Nodup := by decide +kernel
theorem zDw (T : Txt K mg) (S : Src K mg "_law_pick" zrw ["_law_mask", "_law_many"]) : Def P w K mg base 1 "_law_pick" ["_law_mask", "_law_many"] zvj := by
 refine S.def zBz (fun vs H Q E h => ?_) (fun f cdv A outer s H vs Q E hr h => ?_)
 ·obtain ⟨_, _, rfl, _⟩ := h; rfl
 ·obtain ⟨b, m, rfl, m8, q⟩ := h;refine ⟨_, zG (zO (zY (yG K) rfl T.tuple yH (zA (yT (N' := ["_law_k", "_law_mask"]) (fr := [none, some 0]) (zS (by rfl)) rfl (xY rfl T.range (zA (pv 1) zB))
   (fun _ _ _ _ => zI (i := 0) zHu rfl (Or.inl rfl) (Or.inr rfl)) (fun _ _ _ _ => y9 (yF qL (zQ zne (zQ znd (pv 1) (pv 0)) zF) zF (yQ _))) (fun _ _ _ _ => pv 0)) zB))), ?_⟩
  refine ⟨_, rfl, (m : Int), rfl, by omega, by omega, ?_⟩;rw [Q4];refine x8 (lo := 0) (n := m) (fun σ => ∃ v, σ = [v, some (.int b)]) (fun j ys H5 => H5 = H /\ ys = ((ups j).filter (zzz b)).map V.int) ⟨_, rfl⟩ ⟨rfl, rfl⟩ (xF (by omega)) ?_ ?_
  ·rintro j ys σ H5 N hj ⟨u, rfl⟩ ⟨rfl, rfl⟩ hN;rw [show (0 : Int) + (j : Int) = (j : Int) by omega];dsimp only [yB, List.set];have eb : decide (V.int (Builtin.bitAnd (b / 2 ^ (j : Int).toNat) 1) = V.int 1) = zzz b j := by
    unfold zzz;rw [decide_eq_decide];exact ⟨fun z => by injection z, fun z => by rw [z]⟩
   refine ⟨_, rfl, _, rfl, _, _, rfl, rfl, (by show (0 : Int) <= (j : Int); omega), _, _, rfl, rfl, rfl, _, rfl, ?_⟩;rw [eb];have e1 : ups ((j + 1 : Nat) : Int) = ups j ++ [(j : Int)] := by rw [show ((j + 1 : Nat) : Int) = (j : Int) + 1 by omega, vY (by omega)]
   refine zdt (fun z => ⟨_, rfl, ?_⟩) (fun z => ?_)
   ·refine hN _ _ _ ⟨_, rfl⟩ ⟨rfl, ?_⟩ (by simp);rw [e1, Wz, Qu];simp [z]
   ·refine hN _ _ _ ⟨_, rfl⟩ ⟨rfl, ?_⟩ (by simp);rw [e1, Wz];simp [z]
  ·rintro ys H5 ⟨rfl, rfl⟩ p hp;refine ⟨p, _, rfl, .inl ⟨SqL.of zC, fun t ht => ?_⟩⟩;refine q t _ ((Same.new hp).trans (Same.new ht)) ?_;rw [zC];rfl
theorem zBx : zL ["_law_pick_here", "_law_many"] ["_law_pick_here", "_law_many"] (zE zrt) := ⟨rfl, rfl, rfl, by decide +kernel, rfl, by decide +kernel, by decide +kernel⟩
theorem zHt : (["_law_k", "_law_pick_here"] : List Str).Nodup := by decide +kernel
theorem zDt (T : Txt K mg) (S : Src K mg "_law_rest" zrt ["_law_pick_here", "_law_many"]) : Def P w K mg base 1 "_law_rest" ["_law_pick_here", "_law_many"] (zvi K) := by
 refine S.def zBx (fun vs H Q E h => ?_) (fun f cdv A outer s H vs Q E hr h => ?_)
 ·obtain ⟨_, _, _, rfl, _⟩ := h; rfl
 ·obtain ⟨pk, ks, m, rfl, hp, m8, q⟩ := h;refine ⟨_, zG (zO (zY (yG K) rfl T.tuple yH (zA (yT (N' := ["_law_k", "_law_pick_here"]) (fr := [none, some 0]) (zS (by rfl)) rfl (xY rfl T.range (zA (pv 1) zB))
   (fun _ _ _ _ => zI (i := 0) zHt rfl (Or.inl rfl) (Or.inr rfl)) (fun _ _ _ _ => y9 (yF (r := rIn K true) j9 (pv 0) (pv 1) rfl)) (fun _ _ _ _ => pv 0)) zB))), ?_⟩
  refine ⟨_, rfl, (m : Int), rfl, by omega, by omega, ?_⟩;rw [Q4];refine x8 (lo := 0) (n := m) (fun σ => ∃ v, σ = [v, some (.ref pk)]) (fun j ys H5 => H5 = H /\ ys = (rs j ks).map V.int) ⟨_, rfl⟩ ⟨rfl, rfl⟩ (xF (by omega)) ?_ ?_
  ·rintro j ys σ H5 N hj ⟨u, rfl⟩ ⟨rfl, rfl⟩ hN;rw [show (0 : Int) + (j : Int) = (j : Int) by omega];dsimp only [yB, List.set];refine ⟨_, rfl, _, rfl, pk, ks.map V.int, rfl, .inr hp, rfl, gF _, _, rfl, ?_⟩;rw [if_pos rfl, gW];have e1 : rs (j + 1) ks = rs j ks ++ (if !decide ((j : Int) ∈ ks) then [(j : Int)] else []) := by
    unfold rs gQ;rw [show ((j + 1 : Nat) : Int) = (j : Int) + 1 by omega, vY (by omega), Wz, zui]
   refine zdt (fun z => ⟨_, rfl, ?_⟩) (fun z => ?_)
   ·refine hN _ _ _ ⟨_, rfl⟩ ⟨rfl, ?_⟩ (by simp);rw [e1, if_pos z, Qu];rfl
   ·refine hN _ _ _ ⟨_, rfl⟩ ⟨rfl, ?_⟩ (by simp);rw [e1, if_neg z, Jw]
  ·rintro ys H5 ⟨rfl, rfl⟩ p hp;refine ⟨p, _, rfl, .inl ⟨SqL.of zC, fun t ht => ?_⟩⟩;refine q t _ ((Same.new hp).trans (Same.new ht)) ?_;rw [zC]
end
def zrq (K : W.Frag) : Sp := fun vs H Q _ => ∃ (a : Addr) (ns : List Int), vs = [.ref a] /\ SqL K H a (ns.map V.int) /\ ns.length <= 63 /\ ∀ H', Q (.bl true) H'
theorem ztf {K : W.Frag} {H : Hp} {v u : V} {p : List Int} (h1 : TupAt H v p) (h2 : TupAt H u p) : SameD K H 1 v u := by
 obtain ⟨a, rfl, ha⟩ := h1;obtain ⟨b, rfl, hb⟩ := h2;refine .tup (SqT.of ha) (SqT.of hb) rfl fun i x y e1 e2 => ?_;rw [e1] at e2;cases e2
 obtain ⟨k, _, rfl⟩ := x5 e1;exact .flat rfl
theorem zlw {K : W.Frag} {H : Hp} {a b : Addr} {xs ys : List V} {L : List (List Int)} (ha : H a = some (.lst xs)) (hb : H b = some (.lst ys)) (p1 : Paired (TupAt H) xs L) (p2 : Paired (TupAt H) ys L) {Q : VK} {out : Bool} (q : Q (.bl out) H) : zca K out (.ref a) (.ref b) H Q := by
 have l1 := Paired.length p1;have l2 := Paired.length p2;refine ⟨a, b, xs, ys, 1, rfl, rfl, .inr ⟨SqL.of ha, SqL.of hb⟩, by omega, by decide, fun j x y f1 f2 => ?_, q⟩;obtain ⟨q1, g1, h1⟩ := Paired.at p1 f1;obtain ⟨q2, g2, h2⟩ := Paired.at p2 f2;rw [g1] at g2;cases g2
 exact ztf h1 h2
theorem zev {K : W.Frag} {H H0 H1 : Hp} {a b : Addr} {xs ys : List V} {rows : List (List Nat)} (ha : H a = some (.lst xs)) (hb : H b = some (.lst ys)) (p1 : Paired (zlm H0 H) xs rows) (p2 : Paired (zlm H1 H) ys rows) {Q : VK} {out : Bool} (q : Q (.bl out) H) : zca K out (.ref a) (.ref b) H Q := by
 have l1 := Paired.length p1;have l2 := Paired.length p2;refine ⟨a, b, xs, ys, 1, rfl, rfl, .inr ⟨SqL.of ha, SqL.of hb⟩, by lia, by decide, fun j x y f1 f2 => ?_, q⟩;obtain ⟨r1, g1, a1, rfl, _, b1⟩ := Paired.at p1 f1;obtain ⟨r2, g2, a2, rfl, _, b2⟩ := Paired.at p2 f2;rw [g1] at g2;cases g2
 refine .lst (SqL.of b1) (SqL.of b2) rfl fun i x y e1 e2 => ?_;rw [e1] at e2;cases e2
 obtain ⟨k, _, rfl⟩ := zdb e1;exact .flat rfl
theorem zps {H : Hp} : ∀ {rs : List V} {kss : List (List Int)}, Paired (TupAt H) rs kss -> Paired (vK H) rs kss := fun h => h
theorem zBd (ns : List Int) (h : Nat) : ∃ ms : List Int, zbh (ns.map V.int) (some 1) (some (h : Int)) = ms.map V.int /\ ms.length <= h - 1 := by
 have e1 := HT.sIx_nat (ns.map V.int).length 0 1;have e9 := HT.sIx_nat (ns.map V.int).length (ns.map V.int).length h;refine ⟨(ns.drop (HT.sIx (ns.map V.int).length 0 (some 1))).take (HT.sIx (ns.map V.int).length (ns.map V.int).length (some (h : Int)) - HT.sIx (ns.map V.int).length 0 (some 1)), ?_, ?_⟩
 ·unfold zbh;rw [List.map_take, List.map_drop]
 ·rw [J8, List.length_drop];rw [show (some ((1 : Nat) : Int)) = some (1 : Int) from rfl] at e1;rw [e1, e9];lia
theorem zqh {F : List (List Int)} (nd : F.Nodup) (al : ∀ p ∈ F, ∀ r ∈ F, p.length = r.length) (h2 : 2 <= F.length) : ∀ ks ∈ F, ks ≠ [] := fun ks hks e => by
 subst e;have all0 : ∀ p ∈ F, p = [] := fun p hp => Wl.mp (al p hp [] hks)
 match F, h2, all0, nd with
 | a :: b :: F', _, all0, nd =>
  have ea := all0 a Qk;have eb := all0 b (Qy _ Qk);rw [ea, eb] at nd;simp at nd
theorem Du.poly {n1 n2 : Int} {ps qs : List (Int × Int)} (D : Du n1 n2 ps qs) {ts us L M M' : List T3} (h1 : PolyIs ts L) (c1 : ∀ k, coef ts k = My.tut n1 ps k) (h2 : PolyIs us M) (c2 : ∀ k, coef us k = My.tut n2 qs k) (hx : PolyIs (L.map sw) M') : M = M' := by
 refine h2.uniq hx fun k => ?_;rw [c2, zzx, h1.coef, c1];exact D.tut k.1 k.2
theorem Du.trees_nd {n1 n2 : Int} {ps qs : List (Int × Int)} (D : Du n1 n2 ps qs) : ((zX n1 ps).map (rs ps.length)).Nodup := by
 have nd : (zX n1 ps).Nodup := ((zaa D.ok1.2.2).filter _).filter _;unfold List.Nodup;rw [Jt];refine nd.imp_of_mem fun {x y} hx hy ne z => ne ?_;have X := tree_of D.ok1 hx;have Y := tree_of D.ok1 hy;rw [<- zau X.ks X.up, z, zau Y.ks Y.up]
theorem Du.facts {n1 n2 : Int} {ps qs : List (Int × Int)} (D : Du n1 n2 ps qs) {m : Nat} (lp : ps.length = m) {ord : List Int} (pm : ord.Perm (ups m)) : (∀ t ∈ zX n1 ps, rs m t ∈ zX n2 qs) /\ (∀ t ∈ zX n1 ps, zvx n2 qs (rs m t) ord = zwk n1 ps t ord) /\ (∀ t ∈ zX n1 ps, zwk n2 qs (rs m t) ord = zvx n1 ps t ord) /\ ∀ pick, Ks m pick -> My.treeO n2 qs (rs m pick) ord = rs m (My.treeO n1 ps pick ord) := by
 subst lp;have pm2 : ord.Perm (ups qs.length) := by rw [D.len]; exact pm
 refine ⟨fun t ht => D.tree ht, fun t ht => ?_, fun t ht => ?_, fun pick kp => D.treeO kp pm⟩
 ·rw [zvw D.ok2 (tree_of D.ok2 (D.tree ht)), zwj D.ok1 (tree_of D.ok1 ht) pm, D.lin ht pm]
 ·rw [zwj D.ok2 (tree_of D.ok2 (D.tree ht)) pm2, zvw D.ok1 (tree_of D.ok1 ht), D.lout ht pm]
theorem zFz {ts L : List T3} (h : PolyIs ts L) (b : Bd ts) : Bd (L.map sw) /\ L.length < 1000 := by
 have d : Deg ((9 : Nat) : Int) ts := fun t ht => by have := b t ht; lia
 have l := gZ h.up (h.deg d);have key : ∀ t ∈ L, ∃ u ∈ ts, u.1 = t.1 /\ u.2.1 = t.2.1 := fun t ht => by
  obtain ⟨h1, h2⟩ := (h.mem t).mp ht;obtain ⟨u, hu, e⟩ : ∃ u ∈ ts, k3 u = k3 t := by
   refine Classical.byContradiction fun z => h1 ?_;rw [h2];exact xZ fun u hu e => z ⟨u, hu, e⟩
  exact ⟨u, hu, congrArg (fun k : Int × Int => k.1) e, congrArg (fun k : Int × Int => k.2) e⟩
 refine ⟨fun t ht => ?_, by lia⟩;obtain ⟨t', ht', rfl⟩ := Ql.mp ht;obtain ⟨u, hu, e1, e2⟩ := key t' ht';have := b u hu;show 0 <= t'.2.1 /\ 0 <= t'.1 /\ t'.2.1 + t'.1 <= 9;lia
section
variable {P : Program} {w : World} {K : W.Frag} {mg : Str -> Option Value} {base : Heap}
theorem scLaw : zL ["_law_script", "_law_turns", "_law_cell", "_law_drawing", "_law_other", "_law_many", "_law_one", "_law_two", "_law_trees", "_law_order_here", "_law_tree", "_law_rest_here", "_law_pick_here"] ["_law_script"] (zE zlx) := ⟨rfl, rfl, rfl, by decide +kernel, rfl, by decide +kernel, by decide +kernel⟩
theorem zHs : (["_law_tree", "_law_many"] : List Str).Nodup := by decide +kernel
theorem zDe {f : Addr} {fd : FuncData} (F : Fun K "law" "law" zlx f fd) (T : Txt K mg) (DA : Def P w K mg base 1 "_law_at" ["_law_script", "_law_k"] (zEl K)) (DG : Def P w K mg base 2 "_law_grown" ["_law_old", "_law_cell"] zns) (DN : Def P w K mg base 1 "_law_numbered" ["_law_turns", "_law_cell"] zbo)
  (DD : Def P w K mg base 4 "drawing_of" ["turns"] (zeu K)) (DO : Def P w K mg base 2 "other_one" ["drawing"] (zgn K)) (DR : Def P w K mg base 2 "rounds_of" ["drawing"] (kP K)) (DL : Def P w K mg base 3 "lands_of" ["drawing"] (zgo K)) (DW : Def P w K mg base 3 "web_of" ["drawing"] (zgl K))
  (DT : Def P w K mg base 4 "all_trees" ["web"] (zGi K)) (DE : Def P w K mg base 1 "_law_rest" ["_law_pick_here", "_law_many"] (zvi K)) (DQ : Def P w K mg base 2 "_law_order" ["_law_script", "_law_many"] (znr K)) (DI : zhf P w K mg base 4 "inner_ties" ["web", "tree", "order"] (zhm K zwk)) (DU : zhf P w K mg base 4 "outer_ties" ["web", "tree", "order"] (zhm K zvx))
  (DP : Def P w K mg base 1 "_law_pick" ["_law_mask", "_law_many"] zvj) (DF : zhf P w K mg base 5 "tree_of" ["web", "pick", "order"] (zjn K)) (DB : Def P w K mg base 4 "by_picks" ["web"] (zAk K)) (DX : Def P w K mg base 2 "exchanged" ["poly"] (zvn K)) : zhe P w K mg base CX0 6 f fd ["_law_script"] (zrq K) := by
 refine F.ok scLaw (fun vs H Q E h => ?_) (fun cdv A outer s H vs Q E hr h => ?_)
 ·obtain ⟨a, ns, rfl, _⟩ := h; rfl
 ·obtain ⟨a, ns, rfl, hq, hlen, q⟩ := h;have hr1 : Room 1 _ := hr.mono (by decide);have hr2 : Room 2 _ := hr.mono (by decide);have hr3 : Room 3 _ := hr.mono (by decide);have hr4 : Room 4 _ := hr.mono (by decide);refine ⟨_, zD (zJ (i := 1) scLaw.nd rfl (Or.inl rfl) (xM zB))
   (zD (wG PassesOwn.never rfl (yM K .l (kY (zjt K) (pv 0) (jK zF) (jK (zQ xN zF (yO (yS K) (xM (zA zF (zA zF zB))) (zY zrh rfl T.int zfo (zA (qF qL (zQ wJ (zH DA hr1 rfl (zA (pv 0) (zA zF zB))) zF) zF (yQ _)) zB)) (fun _ _ => rfl)))))) (zI (i := 2) scLaw.nd rfl (Or.inl rfl)) (zG (zJ (i := 1) scLaw.nd rfl (Or.inl rfl) (zH DG hr2 rfl (zA (pv 1) (zA (pv 2) zB))))))
   (zD (zJ (i := 1) scLaw.nd rfl (Or.inl rfl) (zH DN hr1 rfl (zA (pv 1) (zA (zQ x0 (zH DA hr1 rfl (zA (pv 0) (zA zF zB))) zF) zB))))
   (zD (zJ (i := 3) scLaw.nd rfl (Or.inl rfl) (zH DD hr4 rfl (zA (pv 1) zB)))
   (zD (zJ (i := 4) scLaw.nd rfl (Or.inl rfl) (zH DO hr2 rfl (zA (pv 3) zB)))
   (zD (wU (PW.pt (zlz (kI (vE (zN zuz (by rfl) T.isi gE (zA (pv 4) (zA (gO (v := .ty "tuple") rfl T.tuple yH rfl) zB))))) (zlz (yF (vO K (wN hr)) (zH DD hr4 rfl (zA (zY (jT K) rfl T.list w5 (zA (pv 4) zB)) zB)) (pv 4) (yQ _)) (zie (yF (vO K (wN hr)) (zH DO hr2 rfl (zA (pv 4) zB)) (pv 3) (yQ _)))))) (zG (zO zif)) xB)
   (zD (wU (PW.pt (zlz (yF (vO K (wN hr)) (zH DR hr2 rfl (zA (pv 4) zB)) (zH DL hr3 rfl (zA (pv 3) zB)) (yQ _)) (zie (yF (vO K (wN hr)) (zH DL hr3 rfl (zA (pv 4) zB)) (zH DR hr2 rfl (zA (pv 3) zB)) (yQ _))))) (zG (zO zif)) xB)
   (zD (zJ (i := 5) scLaw.nd rfl (Or.inr rfl) (zQ x0 (zN (yL K) (by rfl) T.len PySem.boot_len (zA (pv 1) zB)) zF))
   (zD (zJ (i := 6) scLaw.nd rfl (Or.inl rfl) (zH DW hr3 rfl (zA (pv 3) zB)))
   (zD (zJ (i := 7) scLaw.nd rfl (Or.inl rfl) (zH DW hr3 rfl (zA (pv 4) zB)))
   (zD (zJ (i := 8) scLaw.nd rfl (Or.inl rfl) (zH DT hr4 rfl (zA (pv 6) zB)))
   (zD (wU (yF (vO K (wN hr)) (zH DT hr4 rfl (zA (pv 7) zB)) (zN zdx (by rfl) T.sorted xT (zA (yT (N' := ["_law_tree", "_law_many"]) (fr := [none, some 5]) (zS (by rfl)) rfl (yM K .l (pv 8)) (fun _ _ _ _ => zI (i := 0) zHs rfl (Or.inl rfl) (Or.inr rfl)) (fun _ _ _ _ => xA) (fun _ _ _ _ => (zH DE hr1 rfl (zA (pv 0) (zA (pv 1) zB))))) zB)) (yQ _)) (zG (zO zif)) xB)
   (zD (zJ (i := 9) scLaw.nd rfl (Or.inl rfl) (zH DQ hr2 rfl (zA (pv 0) (zA (pv 5) zB))))
   (zD (wG PassesOwn.never rfl (yM K .l (kY (zjt K) (pv 0) (jK zF) (jK zF))) (zI (i := 2) scLaw.nd rfl (Or.inl rfl))
   (zD (zJ (i := 10) scLaw.nd rfl (Or.inl rfl) (yO (yS K) (pv 8) (zQ wJ (pv 2) (zN (yL K) (by rfl) T.len PySem.boot_len (zA (pv 8) zB))) (fun _ _ => rfl)))
   (zD (zJ (i := 11) scLaw.nd rfl (Or.inl rfl) (zH DE hr1 rfl (zA (pv 10) (zA (pv 5) zB))))
   (zD (wU (yF (vO K (wN hr)) (jL DI hr4 rfl (zA (pv 6) (zA (pv 10) (zA (pv 9) zB)))) (jL DU hr4 rfl (zA (pv 7) (zA (pv 11) (zA (pv 9) zB)))) (yQ _)) (zG (zO zif)) xB)
   (zD (wU (yF (vO K (wN hr)) (jL DU hr4 rfl (zA (pv 6) (zA (pv 10) (zA (pv 9) zB)))) (jL DI hr4 rfl (zA (pv 7) (zA (pv 11) (zA (pv 9) zB)))) (yQ _)) (zG (zO zif)) xB)
   (zD (zJ (i := 12) scLaw.nd rfl (Or.inl rfl) (zH DP hr1 rfl (zA (zQ wJ (zQ x0 (pv 2) zF) (zQ zCy zF (pv 5))) (zA (pv 5) zB))))
   (zD (zJ (i := 10) scLaw.nd rfl (Or.inl rfl) (jL DF hr rfl (zA (pv 6) (zA (pv 12) (zA (pv 9) zB)))))
   (zG (wU (yF (vO K (wN hr)) (jL DF hr rfl (zA (pv 7) (zA (zH DE hr1 rfl (zA (pv 12) (zA (pv 5) zB))) (zA (pv 9) zB)))) (zH DE hr1 rfl (zA (pv 10) (zA (pv 5) zB))) (yQ _)) (zG (zO zif)) xB)))))))))
   (zG (zO (qF (zyh K (wN hr)) (zH DB hr4 rfl (zA (pv 7) zB)) (zH DX hr2 rfl (zA (zH DB hr4 rfl (zA (pv 6) zB)) zB)) (yQ _))))))))))))))))), ?_⟩
  refine zK fun M hM => ?_;refine ⟨Jj _, fun l hl => hM _ _ ?_⟩;clear hM M;have s1 := Same.new (o := HO.lst []) hl;have hl1 : (upd H l (.lst [])) l = some (.lst ((ci []).map V.int)) := zC;generalize upd H l (.lst []) = H1 at s1 hl1 ⊢;refine zK fun M hM => ?_;refine ⟨_, rfl, _, rfl, by show 2 <= sizeLine; decide, fun l2 hl2 => ?_⟩;have s2 := Same.new (o := HO.lst [.int 5, .int 8]) hl2;have hl2' : (upd H1 l2 (.lst [.int 5, .int 8])) l2 = some (.lst [.int 5, .int 8]) := zC;have s12 := s1.trans s2;have hl3 := s2 _ _ hl1;generalize upd H1 l2 (.lst [.int 5, .int 8]) = H2 at s2 hl2' s12 hl3 ⊢;refine ⟨_, rfl, a, ns, 0, rfl, s12.seq hq, _, _, rfl, rfl, (by show (0 : Int) < 8; decide), rfl, decide (V.int (ns.getD 0 0 % 8) = V.int 5), rfl, ?_⟩;generalize decide (V.int (ns.getD 0 0 % 8) = V.int 5) = b;obtain ⟨z, hz, hb⟩ : ∃ z : Int, (z = 5 \/ z = 8) /\ atI ([.int 5, .int 8] : List V) (if b = true then 1 else 0) = some (.int z) := by
   cases b
   ·exact ⟨5, .inl rfl, yC (j := 0) rfl⟩
   ·exact ⟨8, .inr rfl, yC (j := 1) rfl⟩
  obtain ⟨ms, em, ml⟩ : ∃ ms : List Int, zbh (ns.map V.int) (some 1) (some (1 + z)) = ms.map V.int /\ ms.length <= 8 := by
   rcases hz with rfl | rfl
   ·obtain ⟨ms, e, m1⟩ := zBd ns 6;exact ⟨ms, e, by lia⟩
   ·obtain ⟨ms, e, m1⟩ := zBd ns 9;exact ⟨ms, e, by lia⟩
  refine ⟨l2, _, _, _, rfl, rfl, SqL.of hl2', hb, _, _, rfl, rfl, _, rfl, a, _, rfl, s12.seq hq, fun p hp => ?_⟩;rw [em];have s3 := Same.new (o := HO.lst (ms.map V.int)) hp;have hp3 : (upd H2 p (.lst (ms.map V.int))) p = some (.lst (ms.map V.int)) := zC;have hl4 := s3 _ _ hl3;have s13 := s12.trans s3;generalize upd H2 p (.lst (ms.map V.int)) = H3 at s3 hp3 hl4 s13 ⊢;refine ⟨p, rfl, ⟨_, SqL.of hp3⟩, vP (k := .l) (K := K) (a := p) (xs := ms.map V.int) (fun i σ H' => Same H3 H' /\ ∃ lt ts u, σ = [some (.ref a), some (.ref lt), u, none, none, none, none, none, none, none, none, none, none] /\ H' lt = some (.lst ((ci ts).map V.int)) /\ Drw ts i) ⟨Same.refl _, l, [], _, rfl, hl4, zIc⟩ (fun i σ H' _ z => SqL.of (z.1 _ _ hp3)) ?_ ?_⟩
  ·rintro i x σ H4 hxi ⟨s4, lt, ts, u, rfl, hlt, D⟩;have il := (Qf.mp hxi).1;rw [Qj] at il;obtain ⟨c, _, rfl⟩ := x5 hxi;dsimp only [yB, List.set];exact ⟨_, rfl, _, rfl, lt, ts, i, c, rfl, hlt, D, by lia, fun l5 us H5 s5 hl5 D5 => ⟨s4.trans s5, l5, us, _, rfl, hl5, D5⟩⟩
  rintro σ H4 ⟨s4, lt, ts, u, rfl, hlt, D⟩;refine hM _ _ ?_;clear hM M;rw [Qj] at D;generalize ms.length = m at D ml;have s14 := s13.trans s4;clear s4 s13 s3 s12 s2 s1 hl1 hl4 hl3 hp3 em hb;refine zK fun M hM => ?_;refine ⟨_, rfl, _, rfl, a, ns, 0, rfl, s14.seq hq, _, _, rfl, rfl, ⟨by decide, by decide⟩, lt, ts, m, _, rfl, hlt, D, ml, fun l5 us H5 s5 hl5 D5 => hM _ _ ?_⟩;clear hM M;dsimp only [List.set];have s15 := s14.trans s5;clear s14 s5 hlt D;refine zK fun M hM => ?_;refine ⟨_, rfl, .l, l5, us, m, rfl, hl5, D5, ml, fun t H6 s6 ht => hM _ _ ?_⟩;clear hM M;dsimp only [List.set];refine zK fun M hM => ?_;refine ⟨_, rfl, t, us, m, rfl, ht, D5.len, ml, fun t2 H7 s7 ht2 => hM _ _ ?_⟩;clear hM M;dsimp only [List.set];have s17 := s15.trans (s6.trans s7);have ht7 := sqT s7 ht;have hl7 := (s6.trans s7) _ _ hl5;have D2 := D5.other;have pl : (xH us).length = 2 * m := by rw [w8, D5.len]
  clear s15 s6 s7 ht hl5;refine zK fun M hM => ?_;refine ⟨_, rfl, t2, _, "tuple", true, rfl, SqT.of ht2, zDi K, _, rfl, wL ?_⟩;refine ⟨_, rfl, t2, _, rfl, .inr (SqT.of ht2), fun l8 hl8 => ?_⟩;have s8 := Same.new (o := HO.lst ((ci (xH us)).map V.int)) hl8;have h88 : (upd H7 l8 (.lst ((ci (xH us)).map V.int))) l8 = some (.lst ((ci (xH us)).map V.int)) := zC;generalize upd H7 l8 (.lst ((ci (xH us)).map V.int)) = H8 at s8 h88 ⊢;refine ⟨.l, l8, xH us, m, rfl, h88, D2, ml, fun t3 H9 s9 ht3 => ?_⟩;have s89 := s8.trans s9;refine ⟨_, rfl, vR ht3 (SqT.of (s89 _ _ ht2)) ⟨_, rfl, wL ?_⟩⟩;refine ⟨_, rfl, t2, xH us, m, rfl, SqT.of (s89 _ _ ht2), pl, ml, fun t4 H10 s10 ht4 => ?_⟩;rw [zqg D5.len] at ht4;have s710 := s89.trans s10;refine ⟨_, rfl, vR (SqT.of ht4) (sqT s710 ht7) ⟨_, rfl, wL (hM _ _ ?_)⟩⟩;clear hM M;have s110 := s17.trans s710;have ht10 := sqT s710 ht7;have ht210 := s710 _ _ ht2;have hl10 := s710 _ _ hl7;clear s17 s710 s89 s9 s8 h88 ht3 ht4 ht7 ht2 hl7;have eR : rds (fn (xH us)) (2 * m) = rds (phi us) (2 * m) := (q9 D5.perm.phi fun x hx => (vN (by rw [D5.len]; exact hx)).symm).symm;have eL : rds (phi (xH us)) (2 * m) = rds (fn us) (2 * m) := (q9 D5.perm fun x hx => (zgv D5.len hx).symm).symm;refine zK fun M hM => ?_;refine ⟨_, rfl, t2, xH us, rfl, SqT.of ht210, by rw [pl]; exact D2.perm, by lia, fun l11 xs H11 s11 _ hl11 hx => ?_⟩;refine ⟨_, rfl, t, us, m, rfl, sqT s11 ht10, D5.perm, D5.len, ml, fun l12 ys H12 s12 _ hl12 hy => ?_⟩;rw [pl, eR] at hx;have s12' := s11.trans s12;refine zev (s12 _ _ hl11) hl12 (vT hx s12) hy ⟨_, rfl, wL ?_⟩;refine ⟨_, rfl, t2, xH us, m, rfl, SqT.of (s12' _ _ ht210), D2.perm, pl, ml, fun l13 xs3 H13 s13 _ hl13 hx3 => ?_⟩;have s13' := s12'.trans s13;refine ⟨_, rfl, t, us, rfl, sqT s13' ht10, by rw [D5.len]; exact D5.perm, by rw [D5.len]; lia, fun l14 ys4 H14 s14 _ hl14 hy4 => ?_⟩;rw [D5.len] at hy4;rw [eL] at hx3;have s14' := s13'.trans s14;refine zev (s14 _ _ hl13) hl14 (vT hx3 s14) hy4 ⟨_, rfl, wL (hM _ _ ?_)⟩;clear hM M hx hy hx3 hy4 hl11 hl12 hl13 hl14;have s114 := s110.trans s14';have ht14 := sqT s14' ht10;have ht214 := s14' _ _ ht210;have hl14 := s14' _ _ hl10;clear s110 s14' s14 s13' s13 s12' s12 s11 ht10 ht210 hl10;refine zK fun M hM => ?_;refine ⟨_, rfl, l5, _, rfl, .inl (SqL.of hl14), _, _, rfl, rfl, ⟨by decide, by decide⟩, hM _ _ ?_⟩;clear hM M;dsimp only [yB, List.set];rw [Qj, xD, D5.len, show ((2 * m : Nat) : Int) / 2 = (m : Int) by lia];refine zK fun M hM => ?_;refine ⟨_, rfl, t, us, m, rfl, ht14, D5.perm, D5.len, ml, fun wv H15 s15 W => hM _ _ ?_⟩;clear hM M;dsimp only [List.set];refine zK fun M hM => ?_;refine ⟨_, rfl, t2, xH us, m, rfl, SqT.of (s15 _ _ ht214), D2.perm, pl, ml, fun wv2 H16 s16 W2 => hM _ _ ?_⟩;clear hM M;dsimp only [List.set];have DU2 := D5.du ml;have few : (zX (nP us m) (tD us m)).length < 64 := zqt (D5.ok ml) (by rw [zmw]; exact D5.one ml);have lp := zmw us m;have lq := zmw (xH us) m;have W1 : WebAt H16 wv (nP us m) (tD us m) := W.same s16;have W2 : WebAt H16 wv2 (nP (xH us) m) (tD (xH us) m) := W2;clear W;generalize nP us m = n1 at DU2 W1 few;generalize nP (xH us) m = n2 at DU2 W2;generalize tD us m = ps at DU2 W1 lp few;generalize tD (xH us) m = qs at DU2 W2 lq;have s116 := s114.trans (s15.trans s16);clear s114 s15 s16 ht14 ht214 hl14 eR eL;have ok1 := DU2.ok1;have ok2 := DU2.ok2;refine zK fun M hM => ?_;refine ⟨_, rfl, wv, n1, ps, rfl, W1, ok1, fun g zs H17 s17 _ hg hzs => hM _ _ ?_⟩;clear hM M;dsimp only [List.set];have s117 := s116.trans s17;have W1 := W1.same s17;have W2 := W2.same s17;clear s116 s17;have zl := Paired.length hzs;have t300 : (zX n1 ps).length <= 300 := by
   unfold zX zas;exact Jx (Jr _ _) (Jx (Jr _ _) (gG ok1.2.2))
  refine zK fun M hM => ?_;refine ⟨_, rfl, wv2, n2, qs, rfl, W2, ok2, fun g2 zs2 H18 s18 _ hg2 hzs2 => ?_⟩;have hg18 := s18 _ _ hg;have hzs18 := yR hzs s18;refine ⟨_, rfl, g, rfl, ⟨_, SqL.of hg18⟩, yX (k := .l) (a := g) (xs := zs) (fun σ => ∃ v, σ = [v, some (.int (m : Int))]) (fun j ys H' => Same H18 H' /\ Paired (TupAt H') ys (((zX n1 ps).take j).map (rs m))) ⟨_, rfl⟩ ⟨Same.refl _, .nil⟩ (qH (by lia)) (fun j ys H' _ z => SqL.of (z.1 _ _ hg18)) ?_ ?_⟩
  ·rintro j x ys σ H' N hx ⟨u, rfl⟩ ⟨sm, hy⟩ hN;obtain ⟨tt, et, tr, rfl, htr⟩ := Paired.at hzs18 hx;dsimp only [yB, List.set];refine zbk ⟨_, rfl, _, rfl, tr, tt, m, rfl, SqT.of (sm _ _ htr), ml, fun r G sG hr => ?_⟩;refine hN _ _ _ ⟨_, rfl⟩ ⟨sm.trans sG, ?_⟩ (by simp);rw [zM et, Qu];exact L2.Paired.snoc (yR hy sG) ⟨r, rfl, hr⟩
  rintro ys H19 ⟨s19, hy⟩ y hyn;rw [zl, Q6] at hy;have s20 := Same.new (o := HO.lst ys) hyn;have hy20 := yR hy s20;have hyy : (upd H19 y (.lst ys)) y = some (.lst ys) := zC;have s1920 := s19.trans s20;generalize upd H19 y (.lst ys) = H20 at s20 hy20 hyy s1920 ⊢;have yl := Paired.length hy20;rw [Qj] at yl;refine ⟨y, ys, _, rfl, SqL.of hyy, by lia, zps hy20, fun h2 => ?_, fun l21 rs' kss' p1 p2 p3 hl21 => ?_⟩
  ·refine zqh (F := (zX n1 ps).map (rs m)) ?_ (fun p hp r hr => ?_) h2
   ·have := DU2.trees_nd;rw [lp] at this;exact this
   ·obtain ⟨a1, ha1, rfl⟩ := Ql.mp hp;obtain ⟨b1, hb1, rfl⟩ := Ql.mp hr;have A := tree_of ok1 ha1;have B := tree_of ok1 hb1;have ra := zdn A.ks A.up;have rb := zdn B.ks B.up;have la := xJ ha1;have lb := xJ hb1;rw [lp] at ra rb;lia
  have e21 : kss' = zX n2 qs := DU2.trees (by rw [lp]; exact p2) p3;subst e21;have s21 := Same.new (o := HO.lst rs') hl21;have s1821 := s1920.trans s21;refine zlw (s1821 _ _ hg2) zC (yR hzs2 s1821) (yR p1 s21) ⟨_, rfl, wL (hM _ _ ?_)⟩;clear hM M;have s1721 := s18.trans s1821;generalize upd H20 l21 (.lst rs') = H21 at s21 s1821 s1721 ⊢;have W1 := W1.same s1721;have W2 := W2.same s1721;have hg := s1721 _ _ hg;have hzs := yR hzs s1721;have s121 := s117.trans s1721;clear s117 s1721 s1821 s21 s1920 s20 s19 s18 hy20 hyy hy hzs18 hg18 hzs2 hg2 p1;refine zK fun M hM => ?_;refine ⟨_, rfl, _, rfl, a, ns, m, rfl, s121.seq hq, ml, fun lo ord H22 s22 hlo pm => hM _ _ ?_⟩;clear hM M;dsimp only [List.set];have W1 := W1.same s22;have W2 := W2.same s22;have hg := s22 _ _ hg;have hzs := yR hzs s22;have s122 := s121.trans s22;clear s121 s22;obtain ⟨fT, fI, fO, fF⟩ := DU2.facts lp pm;refine zK fun M hM => ?_;obtain ⟨ms2, em2, ml2⟩ := zzw ns (some 17) (some 23);refine ⟨_, rfl, _, rfl, _, rfl, a, _, rfl, s122.seq hq, fun p5 hp5 => ?_⟩;rw [em2];have s5 := Same.new (o := HO.lst (ms2.map V.int)) hp5;have hp6 : (upd H22 p5 (.lst (ms2.map V.int))) p5 = some (.lst (ms2.map V.int)) := zC;have W1 := W1.same s5;have W2 := W2.same s5;have hg := s5 _ _ hg;have hzs := yR hzs s5;have hlo := s5 _ _ hlo;clear s122;generalize upd H22 p5 (.lst (ms2.map V.int)) = H5 at s5 hp6 W1 W2 hg hzs hlo ⊢;have e2 : (1 : Int) * 2 ^ ((m : Nat) : Int).toNat = ((2 ^ m : Nat) : Int) := by rw [Int.one_mul, Q4, Int.natCast_pow]; rfl
  have ipos : 0 < ((2 ^ m : Nat) : Int) := Int.natCast_pos.mpr (Nat.two_pow_pos _);have tpos : 0 < (zX n1 ps).length := List.length_pos_iff.mpr (zst ok1.1.1 ok1.1.2 ok1.2.1 ok1.2.2);refine ⟨p5, rfl, ⟨_, SqL.of hp6⟩, vP (k := .l) (K := K) (a := p5) (xs := ms2.map V.int) (fun i σ H' => (∃ u v x y, σ = [some (.ref a), some (.ref l5), u, some (.ref t), some (.ref t2), some (.int (m : Int)), some wv, some wv2, some (.ref g), some (.ref lo), v, x, y]) /\ Same H5 H') ⟨⟨_, _, _, _, rfl⟩, Same.refl _⟩ (fun i σ H' _ z => SqL.of (z.2 _ _ hp6)) ?_ ?_⟩
  ·rintro i x σ H6 hxi ⟨⟨u2, u10, u11, u12, rfl⟩, s6⟩;obtain ⟨c, _, rfl⟩ := x5 hxi;dsimp only [yB, List.set];have ordA : ∀ H', Same H5 H' -> OrdAt .l H' (.ref lo) ps.length ord := fun H' s => .inr ⟨lo, rfl, s _ _ hlo, by rw [lp]; exact pm⟩;have ordB : ∀ H', Same H5 H' -> OrdAt .l H' (.ref lo) qs.length ord := fun H' s => .inr ⟨lo, rfl, s _ _ hlo, by rw [lq]; exact pm⟩;have hz := jN c ((zX n1 ps).length : Int) (by lia);obtain ⟨ix, hix⟩ := Wb hz.1;have ixl : ix < zs.length := by lia
   obtain ⟨tt, et, tr, etr, htr⟩ := Paired.at hzs (Q9 ixl);have tin := Jq et;have TA := tree_of ok1 tin;have T2 := tree_of ok2 (fT tt tin);have tl8 : tt.length <= 8 := by have := kJ (n := (ps.length : Int)) (by lia) (yZ TA.up) TA.ks; lia
   have rl8 : (rs m tt).length <= 8 := by have := kJ (n := (qs.length : Int)) (by lia) (yZ T2.up) T2.ks; lia
   refine zK fun M2 hM2 => ?_;refine ⟨_, rfl, _, rfl, _, rfl, g, zs, rfl, .inl (SqL.of (s6 _ _ hg)), _, _, rfl, rfl, (by show (0 : Int) < (zs.length : Int); lia), g, zs, _, .ref tr, rfl, rfl, SqL.of (s6 _ _ hg), ?_, hM2 _ _ ?_⟩
   ·rw [zl, hix];refine yC ?_;rw [Q9 ixl, etr]
   clear hM2 M2;dsimp only [List.set];refine zK fun M2 hM2 => ?_;refine ⟨_, rfl, _, rfl, tr, tt, m, rfl, SqT.of (s6 _ _ htr), ml, fun r H7 s7 hrr => hM2 _ _ ?_⟩;clear hM2 M2;dsimp only [List.set];have s57 := s6.trans s7;refine zK fun M2 hM2 => ?_;refine ⟨_, rfl, _, rfl, _, rfl, .l, wv, .ref lo, tr, n1, ps, tt, ord, rfl, W1.same s57, ok1, SqT.of (s57 _ _ htr), TA.ks, tl8, ordA _ s57, fun g8 H8 s8 h8 => ?_⟩;have s58 := s57.trans s8;refine ⟨_, rfl, _, rfl, _, rfl, .l, wv2, .ref lo, r, n2, qs, rs m tt, ord, rfl, W2.same s58, ok2, SqT.of (s8 _ _ hrr), T2.ks, rl8, ordB _ s58, fun g9 H9 s9 h9 => ?_⟩;rw [fI tt tin] at h9;refine vR (SqT.of (s9 _ _ h8)) (SqT.of h9) ⟨_, rfl, wL (hM2 _ _ ?_)⟩;clear hM2 M2;have s59 := s58.trans s9;have hr9 := (s8.trans s9) _ _ hrr;refine zK fun M2 hM2 => ?_;refine ⟨_, rfl, _, rfl, _, rfl, .l, wv, .ref lo, tr, n1, ps, tt, ord, rfl, W1.same s59, ok1, SqT.of (s59 _ _ htr), TA.ks, tl8, ordA _ s59, fun g10 H10 s10 h10 => ?_⟩;have s510 := s59.trans s10;refine ⟨_, rfl, _, rfl, _, rfl, .l, wv2, .ref lo, r, n2, qs, rs m tt, ord, rfl, W2.same s510, ok2, SqT.of (s10 _ _ hr9), T2.ks, rl8, ordB _ s510, fun g11 H11 s11 h11 => ?_⟩;rw [fO tt tin] at h11;refine vR (SqT.of (s11 _ _ h10)) (SqT.of h11) ⟨_, rfl, wL (hM2 _ _ ?_)⟩;clear hM2 M2;have s511 := s510.trans s11;refine zK fun M2 hM2 => ?_;refine ⟨_, rfl, _, _, rfl, rfl, ⟨by decide, by decide⟩, _, rfl, _, _, rfl, rfl, ⟨by lia, by lia, by decide⟩, _, _, rfl, rfl, ?_, _, rfl, _, m, rfl, ml, fun pk H12 s12 hpk => hM2 _ _ ?_⟩
   ·show (0 : Int) < _;rw [e2]; exact ipos
   clear hM2 M2;dsimp only [List.set];generalize hP : pkB _ m = PP at hpk;have kp : Ks m PP := by rw [<- hP]; exact zCo _ _
   have s512 := s511.trans s12;refine zK fun M2 hM2 => ?_;refine ⟨_, rfl, _, rfl, _, rfl, .l, wv, .ref lo, pk, n1, ps, PP, ord, rfl, W1.same s512, ok1, SqT.of hpk, ordA _ s512, fun g13 H13 s13 h13 => hM2 _ _ ?_⟩;clear hM2 M2;dsimp only [List.set];have s513 := s512.trans s13;refine ⟨_, rfl, _, rfl, _, rfl, pk, PP, m, rfl, SqT.of (s13 _ _ hpk), ml, fun g14 H14 s14 h14 => ?_⟩;have s514 := s513.trans s14;refine ⟨_, rfl, .l, wv2, .ref lo, g14, n2, qs, rs m PP, ord, rfl, W2.same s514, ok2, SqT.of h14, ordB _ s514, fun g15 H15 s15 h15 => ?_⟩;have s1315 := s14.trans s15;refine ⟨_, rfl, _, rfl, g13, _, m, rfl, SqT.of (s1315 _ _ h13), ml, fun g16 H16 s16 h16 => ?_⟩;rw [fF PP kp] at h15;exact vR (SqT.of (s16 _ _ h15)) (SqT.of h16) ⟨_, rfl, wL ⟨⟨_, _, _, _, rfl⟩, s514.trans (s15.trans s16)⟩⟩
  rintro σ H6 ⟨⟨u2, u10, u11, u12, rfl⟩, s6⟩;refine hM _ _ ?_;clear hM M;refine ⟨_, rfl, wv2, n2, qs, rfl, W2.same s6, ok2, fun v2 L2 ts2 H7 s7 pi2 co2 pa2 bd2 => ?_⟩;refine ⟨_, rfl, wv, n1, ps, rfl, W1.same (s6.trans s7), ok1, fun v1 L1 ts1 H8 s8 pi1 co1 pa1 bd1 => ?_⟩;obtain ⟨b1, b2⟩ := zFz pi1 bd1;refine ⟨v1, L1, rfl, pa1, b2, b1, fun v3 L3 H9 s9 pi3 _ pa3 => ?_⟩;have e : L2 = L3 := DU2.poly pi1 co1 pi2 co2 pi3;subst e;exact zqa (pa2.same (s8.trans s9)) pa3 (q _)
end
theorem zBt {K : W.Frag} {h : Heap} {mg : Str -> Option Value} {x : Str} {st : Stmt} {f : Addr} {ps : List Str} {oc : Value} {od an : Option Addr} {osl : Array (Option Value)} {kV doc pm cdv ct : Value} (X : K.In h) (G : h.Ns mainGlobals mg)
  (a : PySem.W.nsIn K mainGlobals x = some (some (.ref f))) (l : K.lookup f = some ⟨oc, od, .func (PySem.W.fnOf x x (yY st) (yW st) (zE st) .none kV doc pm an cdv ct), osl⟩) (c : PySem.W.codeIn K cdv x = true) (k : PySem.W.keepIn K (.ref f) = true)
  (hb : ∀ (kV doc pm : Value) (an : Option Addr) (cdv ct : Value) (us : List Value), us.length = ps.length -> bindArgs (PySem.W.fnOf x x (yY st) (yW st) (zE st) .none kV doc pm an cdv ct) ⟨us, []⟩ = pure (ps.zip us)) : Src K mg x st ps :=
 ⟨_, _, zni (st := st) l c k, (zni (st := st) l c k).binds hb, PySem.W.mg_of X G a⟩
theorem zEo {p : List Value -> Prop} {n : Nat} (h : ∀ (a : Value) (us : List Value), us.length = n -> p (a :: us)) : ∀ us : List Value, us.length = n + 1 -> p us := fun us hl => by
 cases us with
 | nil => cases hl
 | cons a us => exact h a us (Nat.succ.inj hl)
theorem zHx {p : List Value -> Prop} (h : p []) : ∀ us : List Value, us.length = 0 -> p us := fun us hl => by
 rw [Wl.mp hl];exact h
theorem gR {p : List Value -> Prop} (h : ∀ a, p [a]) : ∀ us : List Value, us.length = 1 -> p us := zEo fun a => zHx (p := fun us => p (a :: us)) (h a)
theorem jO {p : List Value -> Prop} (h : ∀ a b, p [a, b]) : ∀ us : List Value, us.length = 2 -> p us := zEo fun a => gR (p := fun us => p (a :: us)) (h a)
theorem zgx {p : List Value -> Prop} (h : ∀ a b c, p [a, b, c]) : ∀ us : List Value, us.length = 3 -> p us := zEo fun a => jO (p := fun us => p (a :: us)) (h a)
theorem zwz {p : List Value -> Prop} (h : ∀ a b, p [a, b]) : ∀ us : List Value, us.length + 1 = 3 -> p us := fun us hl => jO h us (Nat.succ.inj hl)
theorem zgk {K : W.Frag} {h : Heap} {mg : Str -> Option Value} {x : Str} {st : Stmt} {f T : Addr} {ps : List Str} {oc tc : Value} {od an td : Option Addr} {osl ts : Array (Option Value)} {kV doc pm cdv ct : Value} {tn : Nat} (X : K.In h) (G : h.Ns mainGlobals mg)
  (a : PySem.W.nsIn K mainGlobals x = some (some (.ref f))) (l : K.lookup f = some ⟨oc, od, .func (PySem.W.fnOf x x (yY st) (yW st) (zE st) (.ref T) kV doc pm an cdv ct), osl⟩) (c : PySem.W.codeIn K cdv x = true) (k : PySem.W.keepIn K (.ref f) = true) (t : K.lookup T = some ⟨tc, td, .seq #[.none] tn, ts⟩)
  (b0 : ∀ us : List Value, us.length = ps.length -> ∃ k : Option (Array Value) -> Sem (List (Str × Value)), bindArgs (PySem.W.fnOf x x (yY st) (yW st) (zE st) (.ref T) kV doc pm an cdv ct) ⟨us, []⟩ = seqItems? (.ref T) >>= k /\ k (some #[.none]) = pure (ps.zip us))
  (b1 : ∀ us : List Value, us.length + 1 = ps.length -> ∃ k : Option (Array Value) -> Sem (List (Str × Value)), bindArgs (PySem.W.fnOf x x (yY st) (yW st) (zE st) (.ref T) kV doc pm an cdv ct) ⟨us, []⟩ = seqItems? (.ref T) >>= k /\ k (some #[.none]) = pure (ps.zip (us ++ [.none]))) : SrcD K mg x st ps :=
 ⟨f, T, oc, od, kV, doc, pm, an, cdv, ct, osl, _, tn, l, c, k, PySem.W.mg_of X G a, t, rfl, b0, b1⟩
section
variable {K : W.Frag} {h : Heap} {mg : Str -> Option Value} {x : Str} {st : Stmt} {ps : List Str}
def FA (K : W.Frag) (x : Str) (st : Stmt) : Prop := ∃ (f : Addr) (oc : Value) (od an : Option Addr) (osl : Array (Option Value)) (kV doc pm cdv ct : Value), PySem.W.nsIn K mainGlobals x = some (some (.ref f)) /\ K.lookup f = some ⟨oc, od, .func (PySem.W.fnOf x x (yY st) (yW st) (zE st) .none kV doc pm an cdv ct), osl⟩ /\ PySem.W.codeIn K cdv x = true /\ PySem.W.keepIn K (.ref f) = true
theorem fa_mk {f : Addr} {oc : Value} {od an : Option Addr} {osl : Array (Option Value)} {kV doc pm cdv ct : Value} (a : PySem.W.nsIn K mainGlobals x = some (some (.ref f))) (l : K.lookup f = some ⟨oc, od, .func (PySem.W.fnOf x x (yY st) (yW st) (zE st) .none kV doc pm an cdv ct), osl⟩) (c : PySem.W.codeIn K cdv x = true) (k : PySem.W.keepIn K (.ref f) = true) : FA K x st := ⟨f, oc, od, an, osl, kV, doc, pm, cdv, ct, a, l, c, k⟩
theorem yA (X : K.In h) (G : h.Ns mainGlobals mg) (d : FA K x st) (hb : ∀ (kV doc pm : Value) (an : Option Addr) (cdv ct : Value) (us : List Value), us.length = ps.length -> bindArgs (PySem.W.fnOf x x (yY st) (yW st) (zE st) .none kV doc pm an cdv ct) ⟨us, []⟩ = pure (ps.zip us)) : Src K mg x st ps := by
 obtain ⟨f, oc, od, an, osl, kV, doc, pm, cdv, ct, a, l, c, k⟩ := d;exact zBt X G a l c k hb
end
theorem all_mk {l : PySem.W.OpenLaw} {w : World} {K : W.Frag} {h : Heap} {mg : Str -> Option Value} {fa : Addr} (X : K.In h) (G : h.Ns mainGlobals mg) (hfa : mg "law" = some (.ref fa))
  (d0 : FA K "is_whole" kQ)
  (d1 : FA K "is_each_once" zsc)
  (d2 : FA K "lesser_first" zbu)
  (d3 : FA K "told_order" zrs)
  (d4 : FA K "whole_pick" zho)
  (d5 : FA K "all_picks" zAn)
  (d6 : FA K "with_one_more" zrx)
  (d7 : FA K "heads_of" zhz)
  (d8 : FA K "clusters_of" zsd)
  (d9 : FA K "points_under" zhq)
  (d10 : FA K "rank_of" zru)
  (d11 : FA K "rank_of_web" zhu)
  (d12 : FA K "is_joined" zbw)
  (d13 : FA K "drawing_of" kR)
  (d14 : FA K "web_of" zhp)
  (d15 : FA K "rounds_of" zbs)
  (d16 : FA K "round_from" zht)
  (d17 : FA K "lands_of" zhx)
  (d18 : FA K "other_one" zhv)
  (d19 : FA K "mate_of" zry)
  (d20 : FA K "gathered" zsa)
  (d21 : FA K "product_of" zrv)
  (d22 : FA K "to_power" zhr)
  (d23 : FA K "exchanged" zsb)
  (d24 : FA K "size_table" sST)
  (d25 : FA K "picks_with" sPW)
  (d26 : FA K "by_picks" zAm)
  (d27 : FA K "all_trees" sAT)
  (d30 : FA K "swaps_of" zhs)
  (d31 : FA K "leads_across" zby)
  (d32 : FA K "is_inner" zrz)
  (d33 : FA K "is_outer" zhy)
  (d34 : FA K "is_first" zib)
  (d36 : FA K "is_needed" zbt)
  (d37 : FA K "_law_at" sAt)
  (d38 : FA K "_law_round" zbv)
  (d39 : FA K "_law_behind" zbx)
  (d40 : FA K "_law_grown" zia)
  (d41 : FA K "_law_numbered" q8)
  (d42 : FA K "_law_order" zhw)
  (d43 : FA K "_law_rest" zrt)
  (d44 : FA K "_law_pick" zrw)
  {f28 : Addr} {od28 an28 : Option Addr} {sl28 : Array (Option Value)} {oc28 kV28 dc28 pm28 cd28 ct28 : Value} {T28 : Addr} {tc28 : Value} {td28 : Option Addr} {ts28 : Array (Option Value)} {tn28 : Nat}
  (a28 : PySem.W.nsIn K mainGlobals "inner_ties" = some (some (.ref f28))) (l28 : K.lookup f28 = some ⟨oc28, od28, .func (PySem.W.fnOf "inner_ties" "inner_ties" (yY zba) (yW zba) (zE zba) (.ref T28) kV28 dc28 pm28 an28 cd28 ct28), sl28⟩) (c28 : PySem.W.codeIn K cd28 "inner_ties" = true) (k28 : PySem.W.keepIn K (.ref f28) = true) (t28 : K.lookup T28 = some ⟨tc28, td28, .seq #[.none] tn28, ts28⟩)
  {f29 : Addr} {od29 an29 : Option Addr} {sl29 : Array (Option Value)} {oc29 kV29 dc29 pm29 cd29 ct29 : Value} {T29 : Addr} {tc29 : Value} {td29 : Option Addr} {ts29 : Array (Option Value)} {tn29 : Nat}
  (a29 : PySem.W.nsIn K mainGlobals "outer_ties" = some (some (.ref f29))) (l29 : K.lookup f29 = some ⟨oc29, od29, .func (PySem.W.fnOf "outer_ties" "outer_ties" (yY zaz) (yW zaz) (zE zaz) (.ref T29) kV29 dc29 pm29 an29 cd29 ct29), sl29⟩) (c29 : PySem.W.codeIn K cd29 "outer_ties" = true) (k29 : PySem.W.keepIn K (.ref f29) = true) (t29 : K.lookup T29 = some ⟨tc29, td29, .seq #[.none] tn29, ts29⟩)
  {f35 : Addr} {od35 an35 : Option Addr} {sl35 : Array (Option Value)} {oc35 kV35 dc35 pm35 cd35 ct35 : Value} {T35 : Addr} {tc35 : Value} {td35 : Option Addr} {ts35 : Array (Option Value)} {tn35 : Nat}
  (a35 : PySem.W.nsIn K mainGlobals "tree_of" = some (some (.ref f35))) (l35 : K.lookup f35 = some ⟨oc35, od35, .func (PySem.W.fnOf "tree_of" "tree_of" (yY jJ) (yW jJ) (zE jJ) (.ref T35) kV35 dc35 pm35 an35 cd35 ct35), sl35⟩) (c35 : PySem.W.codeIn K cd35 "tree_of" = true) (k35 : PySem.W.keepIn K (.ref f35) = true) (t35 : K.lookup T35 = some ⟨tc35, td35, .seq #[.none] tn35, ts35⟩)
  {f45 : Addr} {od45 an45 : Option Addr} {sl45 : Array (Option Value)} {oc45 kV45 dc45 pm45 cd45 ct45 : Value}
  (a45 : PySem.W.nsIn K mainGlobals "law" = some (some (.ref f45))) (l45 : K.lookup f45 = some ⟨oc45, od45, .func (PySem.W.fnOf "law" "law" (yY zlx) (yW zlx) (zE zlx) .none kV45 dc45 pm45 an45 cd45 ct45), sl45⟩) (c45 : PySem.W.codeIn K cd45 "law" = true) (k45 : PySem.W.keepIn K (.ref f45) = true)
  (z0 : PySem.W.nsIn K mainGlobals "isinstance" = some none) (z1 : PySem.W.nsIn K mainGlobals "int" = some none) (z2 : PySem.W.nsIn K mainGlobals "bool" = some none) (z3 : PySem.W.nsIn K mainGlobals "len" = some none) (z4 : PySem.W.nsIn K mainGlobals "tuple" = some none) (z5 : PySem.W.nsIn K mainGlobals "all" = some none) (z6 : PySem.W.nsIn K mainGlobals "list" = some none) (z7 : PySem.W.nsIn K mainGlobals "min" = some none) (z8 : PySem.W.nsIn K mainGlobals "max" = some none) (z9 : PySem.W.nsIn K mainGlobals "range" = some none) (z10 : PySem.W.nsIn K mainGlobals "set" = some none) (z11 : PySem.W.nsIn K mainGlobals "sorted" = some none) (z12 : PySem.W.nsIn K mainGlobals "any" = some none) (z13 : PySem.W.nsIn K mainGlobals "enumerate" = some none)
  {ti0 : Tok} (y0 : PySem.W.nsIn K mainGlobals "MOST_TIES" = some (some (.int 8 ti0)))
  {oa ob : Addr} {ood ood2 : Option Addr} {onn onn2 : Nat} {oos oos2 : Array (Option Value)} {ot0 ot1 ot2 : Tok}
  (oo : PySem.W.nsIn K mainGlobals "ONE" = some (some (.ref oa))) (ol : K.lookup oa = some ⟨.type "tuple", ood, .seq #[.ref ob] onn, oos⟩) (om : K.lookup ob = some ⟨.type "tuple", ood2, .seq #[.int 0 ot0, .int 0 ot1, .int 1 ot2] onn2, oos2⟩)
  : ∃ fd : FuncData, (∀ (s : Shared) (v : Value), BindsTo s fd ⟨[v], []⟩ [("_law_script", v)]) /\ ∀ base : Heap, K.In base -> base.Ns mainGlobals mg -> zhe l.prog w K mg base CX0 6 fa fd ["_law_script"] (zrq K) := by
 have e := hfa.symm.trans (PySem.W.mg_of X G a45);cases e
 have S0 : Src K mg "is_whole" kQ ["thing"] := yA X G d0 fun _ _ _ _ _ _ => gR (fun _ => rfl);have S1 : Src K mg "is_each_once" zsc ["thing", "many"] := yA X G d1 fun _ _ _ _ _ _ => jO (fun _ _ => rfl);have S2 : Src K mg "lesser_first" zbu ["a", "b"] := yA X G d2 fun _ _ _ _ _ _ => jO (fun _ _ => rfl);have S3 : Src K mg "told_order" zrs ["web", "order"] := yA X G d3 fun _ _ _ _ _ _ => jO (fun _ _ => rfl);have S4 : Src K mg "whole_pick" zho ["web"] := yA X G d4 fun _ _ _ _ _ _ => gR (fun _ => rfl);have S5 : Src K mg "all_picks" zAn ["web"] := yA X G d5 fun _ _ _ _ _ _ => gR (fun _ => rfl);have S6 : Src K mg "with_one_more" zrx ["picks", "many"] := yA X G d6 fun _ _ _ _ _ _ => jO (fun _ _ => rfl);have S7 : Src K mg "heads_of" zhz ["web", "pick"] := yA X G d7 fun _ _ _ _ _ _ => jO (fun _ _ => rfl);have S8 : Src K mg "clusters_of" zsd ["web", "pick"] := yA X G d8 fun _ _ _ _ _ _ => jO (fun _ _ => rfl);have S9 : Src K mg "points_under" zhq ["heads", "head"] := yA X G d9 fun _ _ _ _ _ _ => jO (fun _ _ => rfl);have S10 : Src K mg "rank_of" zru ["web", "pick"] := yA X G d10 fun _ _ _ _ _ _ => jO (fun _ _ => rfl);have S11 : Src K mg "rank_of_web" zhu ["web"] := yA X G d11 fun _ _ _ _ _ _ => gR (fun _ => rfl);have S12 : Src K mg "is_joined" zbw ["web"] := yA X G d12 fun _ _ _ _ _ _ => gR (fun _ => rfl);have S13 : Src K mg "drawing_of" kR ["turns"] := yA X G d13 fun _ _ _ _ _ _ => gR (fun _ => rfl);have S14 : Src K mg "web_of" zhp ["drawing"] := yA X G d14 fun _ _ _ _ _ _ => gR (fun _ => rfl);have S15 : Src K mg "rounds_of" zbs ["drawing"] := yA X G d15 fun _ _ _ _ _ _ => gR (fun _ => rfl);have S16 : Src K mg "round_from" zht ["drawing", "start"] := yA X G d16 fun _ _ _ _ _ _ => jO (fun _ _ => rfl);have S17 : Src K mg "lands_of" zhx ["drawing"] := yA X G d17 fun _ _ _ _ _ _ => gR (fun _ => rfl);have S18 : Src K mg "other_one" zhv ["drawing"] := yA X G d18 fun _ _ _ _ _ _ => gR (fun _ => rfl);have S19 : Src K mg "mate_of" zry ["end"] := yA X G d19 fun _ _ _ _ _ _ => gR (fun _ => rfl);have S20 : Src K mg "gathered" zsa ["terms"] := yA X G d20 fun _ _ _ _ _ _ => gR (fun _ => rfl);have S21 : Src K mg "product_of" zrv ["one", "other"] := yA X G d21 fun _ _ _ _ _ _ => jO (fun _ _ => rfl);have S22 : Src K mg "to_power" zhr ["poly", "k"] := yA X G d22 fun _ _ _ _ _ _ => jO (fun _ _ => rfl);have S23 : Src K mg "exchanged" zsb ["poly"] := yA X G d23 fun _ _ _ _ _ _ => gR (fun _ => rfl);have S24 : Src K mg "size_table" sST ["web"] := yA X G d24 fun _ _ _ _ _ _ => gR (fun _ => rfl);have S25 : Src K mg "picks_with" sPW ["web", "size", "rank"] := yA X G d25 fun _ _ _ _ _ _ => zgx (fun _ _ _ => rfl);have S26 : Src K mg "by_picks" zAm ["web"] := yA X G d26 fun _ _ _ _ _ _ => gR (fun _ => rfl);have S27 : Src K mg "all_trees" sAT ["web"] := yA X G d27 fun _ _ _ _ _ _ => gR (fun _ => rfl);have S28 : SrcD K mg "inner_ties" zba ["web", "tree", "order"] := zgk X G a28 l28 c28 k28 t28 (zgx fun _ _ _ => ⟨_, rfl, rfl⟩) (zwz fun _ _ => ⟨_, rfl, rfl⟩);have S29 : SrcD K mg "outer_ties" zaz ["web", "tree", "order"] := zgk X G a29 l29 c29 k29 t29 (zgx fun _ _ _ => ⟨_, rfl, rfl⟩) (zwz fun _ _ => ⟨_, rfl, rfl⟩);have S30 : Src K mg "swaps_of" zhs ["web", "tree"] := yA X G d30 fun _ _ _ _ _ _ => jO (fun _ _ => rfl);have S31 : Src K mg "leads_across" zby ["web", "heads", "k"] := yA X G d31 fun _ _ _ _ _ _ => zgx (fun _ _ _ => rfl);have S32 : Src K mg "is_inner" zrz ["order", "swaps", "k"] := yA X G d32 fun _ _ _ _ _ _ => zgx (fun _ _ _ => rfl);have S33 : Src K mg "is_outer" zhy ["order", "swaps", "k"] := yA X G d33 fun _ _ _ _ _ _ => zgx (fun _ _ _ => rfl);have S34 : Src K mg "is_first" zib ["order", "k", "ties"] := yA X G d34 fun _ _ _ _ _ _ => zgx (fun _ _ _ => rfl);have S35 : SrcD K mg "tree_of" jJ ["web", "pick", "order"] := zgk X G a35 l35 c35 k35 t35 (zgx fun _ _ _ => ⟨_, rfl, rfl⟩) (zwz fun _ _ => ⟨_, rfl, rfl⟩);have S36 : Src K mg "is_needed" zbt ["web", "tree", "ahead"] := yA X G d36 fun _ _ _ _ _ _ => zgx (fun _ _ _ => rfl);have S37 : Src K mg "_law_at" sAt ["_law_script", "_law_k"] := yA X G d37 fun _ _ _ _ _ _ => jO (fun _ _ => rfl);have S38 : Src K mg "_law_round" zbv ["_law_turns", "_law_first", "_law_along"] := yA X G d38 fun _ _ _ _ _ _ => zgx (fun _ _ _ => rfl);have S39 : Src K mg "_law_behind" zbx ["_law_turns", "_law_end", "_law_new"] := yA X G d39 fun _ _ _ _ _ _ => zgx (fun _ _ _ => rfl);have S40 : Src K mg "_law_grown" zia ["_law_old", "_law_cell"] := yA X G d40 fun _ _ _ _ _ _ => jO (fun _ _ => rfl);have S41 : Src K mg "_law_numbered" q8 ["_law_turns", "_law_cell"] := yA X G d41 fun _ _ _ _ _ _ => jO (fun _ _ => rfl);have S42 : Src K mg "_law_order" zhw ["_law_script", "_law_many"] := yA X G d42 fun _ _ _ _ _ _ => jO (fun _ _ => rfl);have S43 : Src K mg "_law_rest" zrt ["_law_pick_here", "_law_many"] := yA X G d43 fun _ _ _ _ _ _ => jO (fun _ _ => rfl);have S44 : Src K mg "_law_pick" zrw ["_law_mask", "_law_many"] := yA X G d44 fun _ _ _ _ _ _ => jO (fun _ _ => rfl);have T : Txt K mg := ⟨PySem.W.mg_none_of X G z0, PySem.W.mg_none_of X G z1, PySem.W.mg_none_of X G z2, PySem.W.mg_none_of X G z3, PySem.W.mg_none_of X G z4, PySem.W.mg_none_of X G z5, PySem.W.mg_none_of X G z6, PySem.W.mg_none_of X G z7, PySem.W.mg_none_of X G z8, PySem.W.mg_none_of X G z9, PySem.W.mg_none_of X G z10, PySem.W.mg_none_of X G z11⟩;have hk : ∀ H, PolyK K H (.ref oa) [(0, 0, 1)] := fun H => ⟨oa, [.ref ob], rfl, .inr ⟨_, _, _, ol, rfl, rfl, by show 1 <= sizeLine; decide, .cons rfl .nil⟩, .cons ⟨ob, rfl, .inr ⟨_, _, _, om, rfl, rfl, by show 3 <= sizeLine; decide, .cons ⟨_, rfl⟩ (.cons ⟨_, rfl⟩ (.cons ⟨_, rfl⟩ .nil))⟩⟩ .nil⟩;refine ⟨PySem.W.fnOf "law" "law" (yY zlx) (yW zlx) (zE zlx) .none kV45 dc45 pm45 an45 cd45 ct45, fun s v => .of_eq rfl, fun base _ _ => ?_⟩;have D0 : Def l.prog w K mg base 1 _ _ _ := zun T S0;have D1 : Def l.prog w K mg base 2 _ _ _ := zDx T S1 D0;have D2 : Def l.prog w K mg base 1 _ _ _ := zus S2;have D4 : Def l.prog w K mg base 1 _ _ _ := zId T S4;have D3 : Def l.prog w K mg base 3 _ _ _ := zDs T S3 D4 D1;have D6 : Def l.prog w K mg base 1 _ _ _ := zDy T S6;have D5 : Def l.prog w K mg base 2 _ _ _ := zFy T S5 D6;have D7 : Def l.prog w K mg base 1 _ _ _ := zzs T S7;have D10 : Def l.prog w K mg base 2 _ _ _ := zDu T T.set S10 D7;have D11 : Def l.prog w K mg base 3 _ _ _ := zzl S11 D4 D10;have D9 : Def l.prog w K mg base 1 _ _ _ := zzh T (PySem.W.mg_none_of X G z13) S9;have D8 : Def l.prog w K mg base 2 _ _ _ := zEe T T.set T.sorted S8 D7 D9;have D12 : Def l.prog w K mg base 3 _ _ _ := zut T S12 D8 D4;have D19 : Def l.prog w K mg base 1 _ _ _ := zDz S19;have D16 : Def l.prog w K mg base 1 _ _ _ := zzk S16;have D15 : Def l.prog w K mg base 2 _ _ _ := zup T S15 D16;have D18 : Def l.prog w K mg base 2 _ _ _ := zzn T S18 D19;have D17 : Def l.prog w K mg base 3 _ _ _ := zzp S17 D15 D18;have D14 : Def l.prog w K mg base 3 _ _ _ := zzg T (PySem.W.mg_none_of X G z13) S14 D15 D2;have D13 : Def l.prog w K mg base 4 _ _ _ := zra T (PySem.W.mg_none_of X G z12) (PySem.W.mg_of X G y0) S13 D1 D14 D12 D17;have D20 : Def l.prog w K mg base 1 _ _ _ := zEc T.p S20;have D21 : Def l.prog w K mg base 2 _ _ _ := zDv S21 D20;have D22 : Def l.prog w K mg base 3 _ _ _ := zzi T.p S22 (PySem.W.mg_of X G oo) hk D21;have D24 : Def l.prog w K mg base 3 _ _ _ := zIe T T.sorted S24 D5 D10;have D25 : Def l.prog w K mg base 3 _ _ _ := zIf T S25 D5 D10;have D26 : Def l.prog w K mg base 4 _ _ _ := zFw S26 D11 D24 D21 D22 D20;have D27 : Def l.prog w K mg base 4 _ _ _ := zFx S27 D11 D25;have D23 : Def l.prog w K mg base 2 _ _ _ := zEd S23 D20;have D31 : Def l.prog w K mg base 1 _ _ _ := zuv S31;have D30 : Def l.prog w K mg base 2 _ _ _ := zzj T S30 D7 D4 D31;have D34 : Def l.prog w K mg base 1 _ _ _ := zzu (PySem.W.mg_none_of X G z12) S34;have D32 : Def l.prog w K mg base 2 _ _ _ := zEa S32 D34;have D33 : Def l.prog w K mg base 2 _ _ _ := zzq S33 D34;have D28 : zhf l.prog w K mg base 4 _ _ _ := zzr T S28 D3 D30 D32;have D29 : zhf l.prog w K mg base 4 _ _ _ := zzm T S29 D3 D30 D4 D33;have D36 : Def l.prog w K mg base 4 _ _ _ := zuq T S36 D10 D11;have D35 : zhf l.prog w K mg base 5 _ _ _ := zuo T S35 D3 D36 D7 D31;have D37 : Def l.prog w K mg base 1 _ _ _ := zIg T S37;have D38 : Def l.prog w K mg base 1 _ _ _ := zur S38;have D39 : Def l.prog w K mg base 1 _ _ _ := zuu S39;have D40 : Def l.prog w K mg base 2 _ _ _ := zzt T S40 D39 D38;have D41 : Def l.prog w K mg base 1 _ _ _ := zmm T (PySem.W.mg_none_of X G z13) S41;have D42 : Def l.prog w K mg base 2 _ _ _ := zzo T S42 D37;have D43 : Def l.prog w K mg base 1 _ _ _ := zDt T S43;have D44 : Def l.prog w K mg base 1 _ _ _ := zDw T S44;exact zDe (zni (st := zlx) l45 c45 k45) T D37 D40 D41 D13 D18 D15 D17 D14 D27 D43 D42 D28 D29 D44 D35 D26 D23
theorem walk {l : PySem.W.OpenLaw} {q : Program} {loose : List Str} {XP : (Str -> Option Value) -> Heap -> Prop} {YP : World -> Heap -> Prop} {d : DefRec} {K : Params -> PySem.W.Frag} (hn : l.most = some 63) (hdf : d.params.defaults = [])
  (hY : ∀ (w : World) (h : Heap), YP w h -> (K w.params).In h)
  (F : ∀ (w : World) (mg : Str -> Option Value) (fa : Addr) (h : Heap), (K w.params).In h -> h.Ns mainGlobals mg -> mg d.name = some (.ref fa) ->
   ∃ fd : FuncData, (∀ (s : Shared) (u : Value), BindsTo s fd ⟨[u], []⟩ [("_law_script", u)]) /\ ∀ base : Heap, (K w.params).In base -> base.Ns mainGlobals mg -> zhe l.prog w (K w.params) mg base CX0 6 fa fd ["_law_script"] (zrq (K w.params))) :
  PySem.W.WalkO q loose XP YP l.row.toRowW d [] (fun f vs => PySem.call f vs) :=
 L2.walk_of (n := 63) (k := 6) (x := "_law_script") (CX := fun _ => CX0) (sp := fun w => zrq (K w.params)) hn (by decide) hdf ⟨rfl, by decide, by decide⟩ hY F (fun _ _ a ns hl _ hS => ⟨a, ns, rfl, hS, hl, fun _ => rfl⟩) fun _ _ _ _ _ z => z
end My
def PySem.W.Fast.tw16451989485378204515 : Unit := ()
def PySem.W.Fast.tw9907001859888157651 : Unit := ()
def PySem.W.Fast.tw6809266364296108966 : Unit := ()
def PySem.W.Fast.tw6712120748335303045 : Unit := ()
def PySem.W.Fast.tw11061227737679928368 : Unit := ()
def PySem.W.Fast.tw5058965187575204521 : Unit := ()
def PySem.W.Fast.tw7684089789362135048 : Unit := ()
def PySem.W.Fast.tw12548941452161827659 : Unit := ()
def PySem.W.Fast.tw5110702130723632609 : Unit := ()
def PySem.W.Fast.tw7027625576931352755 : Unit := ()
def PySem.W.Fast.tw6030410980896756045 : Unit := ()
open PySem PySem.W PyProof.Rows
set_option maxRecDepth 100000 in
set_option maxHeartbeats 0 in
theorem PySem.Challenge.cw_manycounts_k86_whole_other_one_holds : PySem.Challenge.rw_manycounts_k86_whole_other_one.Holds := by
 w_on; o_law; k_head; (case hw => w_witness2)
 k_fill
 refine My.walk (l := PySem.Challenge.rw_manycounts_k86_whole_other_one) rfl rfl (fun w h Y => PySem.W.kIn_of Y) ?F;case F =>
  intro w mg fa h KX G hmg
  refine' My.all_mk KX G hmg ?d0 ?d1 ?d2 ?d3 ?d4 ?d5 ?d6 ?d7 ?d8 ?d9 ?d10 ?d11 ?d12 ?d13 ?d14 ?d15 ?d16 ?d17 ?d18 ?d19 ?d20 ?d21 ?d22 ?d23 ?d24 ?d25 ?d26 ?d27 ?d30 ?d31 ?d32 ?d33 ?d34 ?d36 ?d37 ?d38 ?d39 ?d40 ?d41 ?d42 ?d43 ?d44 ?a28 ?l28 ?c28 ?k28 ?t28 ?a29 ?l29 ?c29 ?k29 ?t29 ?a35 ?l35 ?c35 ?k35 ?t35 ?a45 ?l45 ?c45 ?k45 ?z0 ?z1 ?z2 ?z3 ?z4 ?z5 ?z6 ?z7 ?z8 ?z9 ?z10 ?z11 ?z12 ?z13 ?y0 ?oo ?ol ?om
  case d0 => exact My.fa_mk (by k_is) (by k_is) (by k_is) (by k_is)
  case d1 => exact My.fa_mk (by k_is) (by k_is) (by k_is) (by k_is)
  case d2 => exact My.fa_mk (by k_is) (by k_is) (by k_is) (by k_is)
  case d3 => exact My.fa_mk (by k_is) (by k_is) (by k_is) (by k_is)
  case d4 => exact My.fa_mk (by k_is) (by k_is) (by k_is) (by k_is)
  case d5 => exact My.fa_mk (by k_is) (by k_is) (by k_is) (by k_is)
  case d6 => exact My.fa_mk (by k_is) (by k_is) (by k_is) (by k_is)
  case d7 => exact My.fa_mk (by k_is) (by k_is) (by k_is) (by k_is)
  case d8 => exact My.fa_mk (by k_is) (by k_is) (by k_is) (by k_is)
  case d9 => exact My.fa_mk (by k_is) (by k_is) (by k_is) (by k_is)
  case d10 => exact My.fa_mk (by k_is) (by k_is) (by k_is) (by k_is)
  case d11 => exact My.fa_mk (by k_is) (by k_is) (by k_is) (by k_is)
  case d12 => exact My.fa_mk (by k_is) (by k_is) (by k_is) (by k_is)
  case d13 => exact My.fa_mk (by k_is) (by k_is) (by k_is) (by k_is)
  case d14 => exact My.fa_mk (by k_is) (by k_is) (by k_is) (by k_is)
  case d15 => exact My.fa_mk (by k_is) (by k_is) (by k_is) (by k_is)
  case d16 => exact My.fa_mk (by k_is) (by k_is) (by k_is) (by k_is)
  case d17 => exact My.fa_mk (by k_is) (by k_is) (by k_is) (by k_is)
  case d18 => exact My.fa_mk (by k_is) (by k_is) (by k_is) (by k_is)
  case d19 => exact My.fa_mk (by k_is) (by k_is) (by k_is) (by k_is)
  case d20 => exact My.fa_mk (by k_is) (by k_is) (by k_is) (by k_is)
  case d21 => exact My.fa_mk (by k_is) (by k_is) (by k_is) (by k_is)
  case d22 => exact My.fa_mk (by k_is) (by k_is) (by k_is) (by k_is)
  case d23 => exact My.fa_mk (by k_is) (by k_is) (by k_is) (by k_is)
  case d24 => exact My.fa_mk (by k_is) (by k_is) (by k_is) (by k_is)
  case d25 => exact My.fa_mk (by k_is) (by k_is) (by k_is) (by k_is)
  case d26 => exact My.fa_mk (by k_is) (by k_is) (by k_is) (by k_is)
  case d27 => exact My.fa_mk (by k_is) (by k_is) (by k_is) (by k_is)
  case d30 => exact My.fa_mk (by k_is) (by k_is) (by k_is) (by k_is)
  case d31 => exact My.fa_mk (by k_is) (by k_is) (by k_is) (by k_is)
  case d32 => exact My.fa_mk (by k_is) (by k_is) (by k_is) (by k_is)
  case d33 => exact My.fa_mk (by k_is) (by k_is) (by k_is) (by k_is)
  case d34 => exact My.fa_mk (by k_is) (by k_is) (by k_is) (by k_is)
  case d36 => exact My.fa_mk (by k_is) (by k_is) (by k_is) (by k_is)
  case d37 => exact My.fa_mk (by k_is) (by k_is) (by k_is) (by k_is)
  case d38 => exact My.fa_mk (by k_is) (by k_is) (by k_is) (by k_is)
  case d39 => exact My.fa_mk (by k_is) (by k_is) (by k_is) (by k_is)
  case d40 => exact My.fa_mk (by k_is) (by k_is) (by k_is) (by k_is)
  case d41 => exact My.fa_mk (by k_is) (by k_is) (by k_is) (by k_is)
  case d42 => exact My.fa_mk (by k_is) (by k_is) (by k_is) (by k_is)
  case d43 => exact My.fa_mk (by k_is) (by k_is) (by k_is) (by k_is)
  case d44 => exact My.fa_mk (by k_is) (by k_is) (by k_is) (by k_is)
  (case a28 => k_is); (case l28 => k_is); (case c28 => k_is); (case k28 => k_is)
  (case t28 => k_is); (case a29 => k_is); (case l29 => k_is); (case c29 => k_is)
  (case k29 => k_is); (case t29 => k_is); (case a35 => k_is); (case l35 => k_is)
  (case c35 => k_is); (case k35 => k_is); (case t35 => k_is); (case a45 => k_is)
  (case l45 => k_is); (case c45 => k_is); (case k45 => k_is); (case z0 => k_is)
  (case z1 => k_is); (case z2 => k_is); (case z3 => k_is); (case z4 => k_is)
  (case z5 => k_is); (case z6 => k_is); (case z7 => k_is); (case z8 => k_is)
  (case z9 => k_is); (case z10 => k_is); (case z11 => k_is); (case z12 => k_is)
  (case z13 => k_is); (case y0 => k_is)
  (case oo => k_is)
  (case ol => k_is)
  (case om => k_is)
