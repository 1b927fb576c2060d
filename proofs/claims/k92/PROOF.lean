import PyProof.Rows.All
import Wide.All
import OpenK.AllK
import Wide.FinOn
import Lean
import PyProof.EqAt
import PyProof.EqKinds
import PyProof.TupleCall
import KE.KIsAll
import PyProof.DictItems
import KE.KPairComp
import KE.KSortTup
import KE.IntBitsLaws
import KE.KRevIter
import PySem.Challenge.RW_manycounts_k92_desk_refused
set_option Elab.async false
set_option linter.all false
set_option maxRecDepth 100000
set_option maxHeartbeats 4000000
open PySem PySem.W PyProof.Rows in
def Qq := @wpAny_bind
def Qj := @List.length_map
open PySem PySem.W PyProof.Rows in
def Qz := @Heap.get?_push_of_some
def Qx := @Nat.le_refl
def Qv := @decide_eq_false
open PySem PySem.W PyProof.Rows in
def Qw := @Heap.lt_size
def Qk := @List.mem_cons_of_mem
def Qy := @List.mem_cons
def Qg := @List.mem_cons_self
open PySem PySem.W PyProof.Rows in
def Qh := @Heap.get?_push_size
def Qb := @decide_eq_true
def Qf := @List.mem_append_right
def Qp := @List.map_append
def Qd := @Nat.ne_of_lt
def Qc := @Nat.le_trans
def Qu := @Nat.le_of_lt
def Qt := @Nat.le_of_ble_eq_true
def Qs := @Bool.false_ne_true
open PySem PySem.W PyProof.Rows in
def Qr := @wpAny_pure
def Qn := @List.getElem?_eq_some_iff
def Qm := @Bool.and_eq_true
def Ql := @List.length_append
def Q0 := @Int.eq_ofNat_of_zero_le
def Q1 := @List.length_cons
def Q2 := @Nat.lt_of_lt_of_le
def Q3 := @List.mem_singleton
def Q4 := @List.size_toArray
def Q5 := @List.mem_append
def Q6 := @List.mem_of_getElem?
def Q7 := @List.lookup_cons
def Q8 := @List.getElem?_map
def Q9 := @List.append_assoc
def Jq := @List.map_cons
def Jj := @Int.emod_lt_of_pos
def Jz := @List.take_length
def Jx := @Int.toNat_natCast
def Jv := @Nat.lt_of_le_of_lt
def Jw := @Nat.zero_le
def Jk := @Int.emod_nonneg
def Jy := @List.all_eq_true
open PySem PySem.W PyProof.Rows in
def Jg := @Heap.size_push
def Jh := @List.take_of_length_le
def Jb := @List.replicate_succ
def Jf := @List.find?_cons
def Jp := @List.append_nil
def Jd := @Bool.eq_iff_iff
def Ju := @List.not_mem_nil
def Jt := @List.map_map
def Js := @Nat.lt_irrefl
def Jr := @of_decide_eq_true
open PySem PySem.W PyProof.Rows in
def Jn := @Heap.get?_update_other
def Jm := @List.length_take
def Jl := @List.mem_range
def Wq := @List.getElem?_drop
def Wj := @List.getD_eq_getElem?_getD
open PySem PySem.W PyProof.Rows in
def Wz := @Heap.get?_update_self
def Wx := @Nat.ne_of_gt
def Wv := @Int.lt_trans
def Ww := @Bool.eq_false_iff
def Wk := @List.mem_append_left
def Wy := @List.mem_map
def Wg := @List.forIn_cons
def Wh := @List.any_cons
open PySem PySem.W PyProof.Rows in
def Wb := @wpAny_newObj_type
namespace L2
open PySem PySem.Spec PyProof.Rows
abbrev Key := Sum Int Str
def zix : Key -> Value -> Bool
 | .inl k, v => Value.isInt k v
 | .inr x, v => Value.isStrOf x v
def zIz (w : World) : Key -> Int
 | .inl k => hashInt k
 | .inr x => hashStr w x
theorem xS : ∀ {k : Key} {v : Value}, zix k v = true -> (∃ i t, k = Sum.inl i /\ v = Value.int i t) \/ (∃ x t, k = Sum.inr x /\ v = Value.str x t)
 | .inl i, v, h => by
  obtain ⟨t, e⟩ := Value.isInt_shape (k := i) (v := v) h;exact .inl ⟨i, t, rfl, e⟩
 | .inr x, v, h => by
  obtain ⟨t, e⟩ := Value.isStrOf_shape (x := x) (v := v) h;exact .inr ⟨x, t, rfl, e⟩
theorem zqq (i : Int) (t : Tok) : zix (.inl i) (.int i t) = true := by simp [zix, Value.isInt]
theorem zqp (x : Str) (t : Tok) : zix (.inr x) (.str x t) = true := by simp [zix, Value.isStrOf]
theorem zEb (a b : Int) : decide ((Sum.inl a : Key) = Sum.inl b) = (a == b) := by
 by_cases e : a = b
 ·subst e; simp
 ·have h : ¬ (Sum.inl a : Key) = Sum.inl b := fun q => e (Sum.inl.inj q);rw [Qv h];exact (beq_eq_false_iff_ne.mpr e).symm
theorem zDy (a b : Str) : decide ((Sum.inr a : Key) = Sum.inr b) = decide (a = b) := by
 by_cases e : a = b
 ·subst e; simp
 ·have h : ¬ (Sum.inr a : Key) = Sum.inr b := fun q => e (Sum.inr.inj q);rw [Qv h, Qv e]
theorem zEa (a : Int) (b : Str) : decide ((Sum.inl a : Key) = Sum.inr b) = false := Qv (fun q => nomatch q)
theorem zDz (a : Str) (b : Int) : decide ((Sum.inr a : Key) = Sum.inl b) = false := Qv (fun q => nomatch q)
def vA (prog : Program) (w : World) : PySem.KeyKind prog w Key where
 is := zix
 hash := zIz w
 inj := fun v a b ha hb => by
  rcases xS ha with ⟨i, t, rfl, rfl⟩ | ⟨x, t, rfl, rfl⟩
  ·rcases xS hb with ⟨j, u, rfl, e⟩ | ⟨y, u, rfl, e⟩
   ·injection e with e1 _; rw [e1]
   ·exact nomatch e
  ·rcases xS hb with ⟨j, u, rfl, e⟩ | ⟨y, u, rfl, e⟩
   ·exact nomatch e
   ·injection e with e1 _; rw [e1]
 byValue := fun k v h => by
  rcases xS h with ⟨i, t, rfl, rfl⟩ | ⟨x, t, rfl, rfl⟩ <;> rfl
 pyHash := fun hv h => by
  rcases xS hv with ⟨i, t, rfl, rfl⟩ | ⟨x, t, rfl, rfl⟩
  ·exact wpAny_pyHash_int h
  ·exact wpAny_pyHash_str h
 eqBool := fun hu hv h => by
  rcases xS hu with ⟨i, t, rfl, rfl⟩ | ⟨x, t, rfl, rfl⟩
  ·rcases xS hv with ⟨j, u, rfl, rfl⟩ | ⟨y, u, rfl, rfl⟩
   ·rw [zEb] at h; exact wpAny_eqBool_int h
   ·rw [zEa] at h; exact SeqAt.EqAt.int_str i t y u _ _ _ _ h
  ·rcases xS hv with ⟨j, u, rfl, rfl⟩ | ⟨y, u, rfl, rfl⟩
   ·rw [zDz] at h; exact SeqAt.EqAt.str_int x t j u _ _ _ _ h
   ·rw [zDy] at h; exact wpAny_eqBool_str h
 «strs» := fun k x t v h => by
  rcases xS h with ⟨i, u, rfl, e⟩ | ⟨y, u, rfl, e⟩
  ·exact nomatch e
  ·injection e with e1 _;subst e1;cases v <;> rfl
theorem zjl (prog : Program) (w : World) (i : Int) (t : Tok) : (vA prog w).is (.inl i) (.int i t) = true := zqq i t
theorem zjk (prog : Program) (w : World) (x : Str) (t : Tok) : (vA prog w).is (.inr x) (.str x t) = true := zqp x t
inductive V where
 | non | bl (b : Bool) | int (i : Int) | str (x : Str) | byt (b : Array UInt8) | flt (b : UInt64) | ref (a : Addr) | ty (n : String)
 deriving DecidableEq
def RelV : V -> Value -> Prop
 | .non, u => u = Value.none
 | .bl b, u => u = Value.bool b
 | .int i, u => ∃ t, u = Value.int i t
 | .str x, u => ∃ t, u = Value.str x t
 | .byt b, u => ∃ t, u = Value.bytes b t
 | .flt b, u => ∃ t, u = Value.float b t
 | .ref a, u => u = Value.ref a
 | .ty n, u => u = Value.type n
abbrev Vals : List V -> List Value -> Prop := Paired RelV
theorem Vals.length {xs : List V} {us : List Value} (r : Vals xs us) : xs.length = us.length := Paired.length r
theorem Vals.get : ∀ {xs : List V} {us : List Value} {i : Nat} {x : V}, Vals xs us -> xs[i]? = some x -> ∃ u, us[i]? = some u /\ RelV x u
 | _, _, _, _, .nil, e => by simp at e
 | _, _, 0, _, .cons r _, e => by simp at e; subst e; exact ⟨_, rfl, r⟩
 | _, _, i + 1, x, .cons _ t, e => by
  obtain ⟨u, h1, h2⟩ := Vals.get (i := i) (x := x) t (by simpa using e);exact ⟨u, by simpa using h1, h2⟩
theorem Vals.set {x : V} {u : Value} (r : RelV x u) : ∀ {xs : List V} {us : List Value} (i : Nat), Vals xs us -> Vals (xs.set i x) (us.set i u)
 | _, _, _, .nil => .nil
 | _, _, 0, .cons _ t => .cons r t
 | _, _, i + 1, .cons q t => .cons q (Vals.set r i t)
theorem Vals.append : ∀ {xs ys : List V} {us ws : List Value}, Vals xs us -> Vals ys ws -> Vals (xs ++ ys) (us ++ ws)
 | _, _, _, _, .nil, s => s
 | _, _, _, _, .cons r t, s => .cons r (Vals.append t s)
theorem Vals.take : ∀ {xs : List V} {us : List Value} (n : Nat), Vals xs us -> Vals (xs.take n) (us.take n)
 | _, _, 0, _ => .nil
 | _, _, _ + 1, .nil => .nil
 | _, _, n + 1, .cons r t => .cons r (Vals.take n t)
theorem Vals.drop : ∀ {xs : List V} {us : List Value} (n : Nat), Vals xs us -> Vals (xs.drop n) (us.drop n)
 | _, _, 0, r => r
 | _, _, _ + 1, .nil => .nil
 | _, _, n + 1, .cons _ t => Vals.drop n t
def RelO : Option V -> Option Value -> Prop
 | some v, some u => RelV v u
 | none, none => True
 | _, _ => False
def KV {κ : Type} : List (κ × V) -> List (κ × Value) -> Prop := Paired fun (p : κ × V) (q : κ × Value) => p.1 = q.1 /\ RelV p.2 q.2
def kV : Key -> V
 | .inl i => .int i
 | .inr x => .str x
inductive HO where
  | lst (xs : List V)
  | tup (xs : List V)
  | dK (kvs : List (Key × V)) | dT (kvs : List (List Key × V))
  | set (S : Int -> Bool) (n : Nat)
  | ins (C dx : Addr) (fs : List (Str × V))
  | own (x : Addr)
  | xd (fs : List (Str × V))
  | met (f x : Addr)
  | rng (lo hi : Int)
  | frz (o : Obj) (u : HO)
  | tbl (ps : Array Value)
  | ext (φ : Heap -> Prop)
abbrev Hp := Addr -> Option HO
def upd (H : Hp) (a : Addr) (o : HO) : Hp := fun b => if b = a then some o else H b
theorem zB {H : Hp} {a : Addr} {o : HO} : upd H a o a = some o := by unfold upd; rw [if_pos rfl]
theorem zS {H : Hp} {a b : Addr} {o : HO} (h : b ≠ a) : upd H a o b = H b := by unfold upd; rw [if_neg h]
theorem kU {H : Hp} {a b : Addr} {o u : HO} (h : H a = some o) (h' : H b = some u) (d : o ≠ u) : a ≠ b := by
 intro e; subst e; rw [h] at h'; exact d (Option.some.inj h')
theorem yD {H : Hp} {a b : Addr} {o : HO} (h : H a = some o) (h' : H b = none) : a ≠ b := by
 intro e; subst e; rw [h] at h'; cases h'
section
variable (P : Program) (w : World)
def ObjOk (H : Hp) (h : Heap) (a : Addr) : HO -> Prop
 | .lst xs => xs.length <= sizeLine /\ ∃ (its : List Value) (n : Nat), Vals xs its /\ h.get? a = some { cls := .type "list", data := .seq its.toArray n }
 | .tup xs => xs.length <= sizeLine /\ ∃ its : List Value, Vals xs its /\ IsTup h a its.toArray
 | .dK kvs => kvs.length <= sizeLine /\ (a == sysModules) = false /\ ∃ vs, KV kvs vs /\ h.DictOf (vA P w) a vs
 | .dT kvs => kvs.length <= sizeLine /\ (a == sysModules) = false /\ ∃ xs : List (List Key × Addr × Value),
   Paired (fun (p : List Key × V) (q : List Key × Addr × Value) => p.1 = q.1 /\ H q.2.1 = some (.tup (p.1.map kV)) /\ RelV p.2 q.2.2) kvs xs /\
   ∃ o es ep, h.get? a = some o /\ o.ExactDict /\ o.data = .dict es ep /\ es.toList = xs.map (entryOfKey (tupleKind (vA P w))) /\ (xs.map (·.1)).Nodup
 | .set S n => h.SetOf (intKind P w) a S n
 | .ins C dx fs => H dx = some (.own a) /\ fs.length <= 1000 /\ dx ≠ a /\ h.get? a = some (PySem.W.instObj C dx) /\
   ∃ mA, h.Ns1 dx mA /\ (∀ f, RelO (fs.lookup f) (mA f)) /\ PySem.Within mA (fs.map (·.1))
 | .own _ => ∃ o, h.get? a = some o
 | .xd fs => ∃ mA, h.Ns1 a mA /\ ∀ f, RelO (fs.lookup f) (mA f)
 | .rng lo hi => ∃ t u v, h.get? a = some { cls := .type "range", data := .fields #[.int lo t, .int hi u, .int 1 v] }
 | .frz o u => h.get? a = some o /\ ObjOk H h a u
 | .tbl ps => h.get? a = some { cls := .none, data := .fields ps }
 | .met f x => h.get? a = some (PySem.W.methodObj (.ref f) (.ref x))
 | .ext φ => φ h /\ (∃ o, h.get? a = some o) /\ ∀ h1 h2 : Heap, φ h1 -> (∀ o, h1.get? a = some o -> h2.get? a = some o) -> φ h2
def HOk (H : Hp) (h : Heap) : Prop := ∀ a o, H a = some o -> ObjOk P w H h a o
end
section
variable {P : Program} {w : World} {H H' : Hp} {h h' : Heap} {a : Addr} {o : HO}
theorem ObjOk.lt (x : ObjOk P w H h a o) : a < h.objs.size := by
 cases o with
 | lst xs => obtain ⟨_, _, _, _, e⟩ := x; exact Qw e
 | tup xs => obtain ⟨_, _, _, p⟩ := x; exact p.lt
 | dK kvs => obtain ⟨_, _, _, _, o, _, _, e, _⟩ := x; exact Qw e
 | dT kvs => obtain ⟨_, _, _, _, o, _, _, e, _⟩ := x; exact Qw e
 | set S n => obtain ⟨o, _, _, _, e, _⟩ := x; exact Qw e
 | ins C dx fs => obtain ⟨_, _, _, e, _⟩ := x; exact Qw e
 | own y => obtain ⟨_, e⟩ := x; exact Qw e
 | xd fs => obtain ⟨_, ⟨_, _, _, e, _⟩, _⟩ := x; exact Qw e
 | rng lo hi => obtain ⟨_, _, _, e⟩ := x; exact Qw e
 | frz ob u => obtain ⟨e, _⟩ := x; exact Qw e
 | tbl ps => exact Qw (show h.get? a = some _ from x)
 | met f y => exact Qw (show h.get? a = some _ from x)
 | ext φ => obtain ⟨_, ⟨_, e⟩, _⟩ := x; exact Qw e
theorem Paired.mapP {α β : Type} {F G : α -> β -> Prop} : ∀ {l₁ : List α} {l₂ : List β}, Paired F l₁ l₂ -> (∀ a b, F a b -> G a b) -> Paired G l₁ l₂
 | _, _, .nil, _ => .nil
 | _, _, .cons r t, f => .cons (f _ _ r) (Paired.mapP t f)
theorem ObjOk.stay (x : ObjOk P w H h a o) (k : ∀ b u, (b = a \/ H b = some (.own a)) -> h.get? b = some u -> h'.get? b = some u)
  (ho : ∀ b, H b = some (.own a) -> H' b = some (.own a)) (ht : ∀ b xs, H b = some (.tup xs) -> H' b = some (.tup xs)) : ObjOk P w H' h' a o := by
 induction o with
 | lst xs => obtain ⟨z, its, n, r, e⟩ := x; exact ⟨z, its, n, r, k _ _ (.inl rfl) e⟩
 | tup xs => obtain ⟨z, its, r, ob, e, c⟩ := x; exact ⟨z, its, r, ob, k _ _ (.inl rfl) e, c⟩
 | dK kvs => obtain ⟨z, y, vs, r, ob, es, ep, e, c⟩ := x; exact ⟨z, y, vs, r, ob, es, ep, k _ _ (.inl rfl) e, c⟩
 | dT kvs =>
  obtain ⟨z, y, xs, r, ob, es, ep, e, c⟩ := x;exact ⟨z, y, xs, Paired.mapP r fun p q z => ⟨z.1, ht _ _ z.2.1, z.2.2⟩, ob, es, ep, k _ _ (.inl rfl) e, c⟩
 | set S n => obtain ⟨ob, es, ep, t, e, c⟩ := x; exact ⟨ob, es, ep, t, k _ _ (.inl rfl) e, c⟩
 | ins C dx fs =>
  obtain ⟨d, z, ne, e, mA, ⟨od, es, ep, e2, c⟩, r⟩ := x;exact ⟨ho _ d, z, ne, k _ _ (.inl rfl) e, mA, ⟨od, es, ep, k _ _ (.inr d) e2, c⟩, r⟩
 | own y => obtain ⟨ob, e⟩ := x; exact ⟨ob, k _ _ (.inl rfl) e⟩
 | xd fs => obtain ⟨mA, ⟨od, es, ep, e, c⟩, r⟩ := x; exact ⟨mA, ⟨od, es, ep, k _ _ (.inl rfl) e, c⟩, r⟩
 | rng lo hi => obtain ⟨t, u, v, e⟩ := x; exact ⟨t, u, v, k _ _ (.inl rfl) e⟩
 | frz ob u ih => obtain ⟨e, q⟩ := x; exact ⟨k _ _ (.inl rfl) e, ih q⟩
 | tbl ps =>
  have e : h.get? a = some { cls := .none, data := .fields ps } := x;show h'.get? a = some { cls := .none, data := .fields ps };exact k a _ (.inl rfl) e
 | met f y =>
  have e : h.get? a = some (PySem.W.methodObj (.ref f) (.ref y)) := x;show h'.get? a = some (PySem.W.methodObj (.ref f) (.ref y));exact k a _ (.inl rfl) e
 | ext φ => obtain ⟨p, ⟨o, e⟩, st⟩ := x; exact ⟨st _ _ p fun o q => k _ _ (.inl rfl) q, ⟨o, k _ _ (.inl rfl) e⟩, st⟩
theorem HOk.lt (x : HOk P w H h) (e : H a = some o) : a < h.objs.size := (x a o e).lt
theorem HOk.fresh (x : HOk P w H h) (e : h.objs.size <= a) : H a = none := by
 cases q : H a with
 | none => rfl
 | some u => exact absurd (Q2 (x.lt q) e) (Js _)
theorem HOk.kept (x : HOk P w H h) (k : ∀ b u, h.get? b = some u -> h'.get? b = some u) : HOk P w H h' := fun a o e =>
 (x a o e).stay (fun b u _ q => k b u q) (fun _ q => q) fun _ _ q => q
theorem HOk.laid (x : HOk P w H h) (k : ∀ b u, h.get? b = some u -> h'.get? b = some u) (hp : h.objs.size <= a) (new : ObjOk P w (upd H a o) h' a o) : HOk P w (upd H a o) h' := fun b u e => by
 have hn := x.fresh hp;by_cases hb : b = a
 ·subst hb; rw [zB] at e; cases e; exact new
 ·rw [zS hb] at e;exact (x b u e).stay (fun c v _ q => k c v q) (fun c q => by rw [zS (yD q hn)]; exact q) fun c xs q => by rw [zS (yD q hn)]; exact q
end
def Rd (H : Hp) (a : Addr) (u : HO) : Prop := H a = some u \/ ∃ o, H a = some (.frz o u)
theorem Rd.ok {P : Program} {w : World} {H : Hp} {h : Heap} {a : Addr} {u : HO} (r : Rd H a u) (x : HOk P w H h) : ObjOk P w H h a u := by
 rcases r with r | ⟨o, r⟩
 ·exact x a u r
 ·obtain ⟨_, q⟩ := x a _ r;exact q
def Mut : Option HO -> Prop
 | some (.lst _) => True
 | some (.dK _) => True
 | some (.dT _) => True
 | some (.set _ _) => True
 | some (.ins _ _ _) => True
 | some (.ext _) => True
 | _ => False
section
variable {P : Program} {w : World} {H : Hp} {h h' : Heap} {x e : Addr} {o' : HO}
theorem HOk.write (ok : HOk P w H h) (mu : Mut (H x)) (he : e = x \/ H e = some (.own x)) (k : ∀ b u, b ≠ e -> h.get? b = some u -> h'.get? b = some u) (heo : ∃ u, h'.get? e = some u)
  (new : ObjOk P w (upd H x o') h' x o') : HOk P w (upd H x o') h' := fun b u q => by
 have nown : ∀ c y, H c = some (.own y) -> c ≠ x := fun c y r z => by subst z; rw [r] at mu; exact mu
 have ntup : ∀ c xs, H c = some (.tup xs) -> c ≠ x := fun c xs r z => by subst z; rw [r] at mu; exact mu
 by_cases hb : b = x
 ·subst hb; rw [zB] at q; cases q; exact new
 ·rw [zS hb] at q;by_cases hbe : b = e
  ·have q' : H b = some (.own x) := by
    rcases he with z | z
    ·exact absurd (hbe.trans z) hb
    ·rw [hbe]; exact z
   rw [q] at q'; cases q';obtain ⟨v, hv⟩ := heo;exact ⟨v, by rw [hbe]; exact hv⟩
  ·refine (ok b u q).stay (fun c v hc r => k c v ?_ r) (fun c r => by rw [zS (nown c b r)]; exact r) fun c xs r => by rw [zS (ntup c xs r)]; exact r
   rcases hc with rfl | hc
   ·exact hbe
   ·rintro rfl;rcases he with z | z
    ·exact nown c b hc z
    ·rw [hc] at z; cases z; exact hb rfl
end
structure Un (fs ex : List Addr) (H H' : Hp) (h h' : Heap) : Prop where
 keep : ∀ b o, h.get? b = some o -> H b = none -> b ∉ fs -> b ∉ ex -> h'.get? b = some o
 slot : ∀ b o, h.get? b = some o -> H b = none -> b ∈ fs -> b ∉ ex -> ∃ sl, h'.get? b = some { o with slots := sl }
 free : ∀ b o, h.get? b = some o -> H b = none -> b ∉ ex -> H' b = none
 there : ∀ b o, h.get? b = some o -> b ∉ ex -> ∃ o', h'.get? b = some o'
 tups : ∀ b xs, H b = some (.tup xs) -> H' b = some (.tup xs)
 frzs : ∀ b o u, H b = some (.frz o u) -> H' b = some (.frz o u)
 tbls : ∀ b ps, H b = some (.tbl ps) -> ∃ more, H' b = some (.tbl (ps ++ more))
section
variable {fs fs' ex ex' : List Addr} {H H1 H2 : Hp} {h h1 h2 h' : Heap} {a x e : Addr} {o : HO}
theorem Un.any (u : Un fs ex H H1 h h1) {b : Addr} {ob : Obj} (q : h.get? b = some ob) (n : H b = none) (hx : b ∉ ex) : ∃ sl, h1.get? b = some { ob with slots := sl } := by
 by_cases hb : b ∈ fs
 ·exact u.slot b ob q n hb hx
 ·exact ⟨ob.slots, u.keep b ob q n hb hx⟩
theorem Un.kept (k : ∀ b u, h.get? b = some u -> h'.get? b = some u) : Un fs ex H H h h' :=
 ⟨fun b ob q _ _ _ => k b ob q, fun b ob q _ _ _ => ⟨ob.slots, k b ob q⟩, fun _ _ _ n _ => n, fun b ob q _ => ⟨ob, k b ob q⟩, fun _ _ q => q, fun _ _ _ q => q, fun _ ps q => ⟨#[], by rw [q]; simp⟩⟩
theorem Un.refl : Un fs ex H H h h := Un.kept fun _ _ q => q
theorem Un.laid (k : ∀ b u, h.get? b = some u -> h'.get? b = some u) (hp : h.objs.size <= a) (hn : H a = none) : Un fs ex H (upd H a o) h h' where
 keep := fun b u q _ _ _ => k b u q
 slot := fun b u q _ _ _ => ⟨u.slots, k b u q⟩
 free := fun b u q n _ => by rw [zS (Qd (Q2 (Qw q) hp))]; exact n
 there := fun b u q _ => ⟨u, k b u q⟩
 tups := fun b xs q => by rw [zS (yD q hn)]; exact q
 frzs := fun b u xs q => by rw [zS (yD q hn)]; exact q
 tbls := fun b ps q => ⟨#[], by rw [zS (yD q hn), q]; simp⟩
theorem Un.write (mu : Mut (H x)) (he : e = x \/ H e = some (.own x)) (k : ∀ b u, b ≠ e -> h.get? b = some u -> h'.get? b = some u) (heo : ∃ u, h'.get? e = some u) : Un fs ex H (upd H x o) h h' := by
 have hx : ∀ b, H b = none -> b ≠ x := fun b n z => by subst z; rw [n] at mu; exact mu
 have hb : ∀ b, H b = none -> b ≠ e := fun b n z => by
  subst z;rcases he with r | r
  ·exact hx b n r
  ·rw [n] at r; cases r
 have hm : ∀ b u, H b = some u -> ¬ Mut (some u) -> b ≠ x := fun b u q nm z => by subst z; rw [q] at mu; exact nm mu
 refine ⟨fun b u q n _ _ => k b u (hb b n) q, fun b u q n _ _ => ⟨u.slots, k b u (hb b n) q⟩, fun b u q n _ => by rw [zS (hx b n)]; exact n, fun b u q _ => ?_,
  fun b xs q => by rw [zS (hm b _ q fun z => z)]; exact q, fun b u xs q => by rw [zS (hm b _ q fun z => z)]; exact q, fun b ps q => ⟨#[], by rw [zS (hm b _ q fun z => z), q]; simp⟩⟩
 by_cases hbe : b = e
 ·subst hbe; exact heo
 ·exact ⟨u, k b u hbe q⟩
end
def trk (h : Heap) (H : Hp) : List Addr := (List.range h.objs.size).filter fun a => (H a).isSome
def zmq (h : Heap) (H : Hp) : Heap := PySem.W.hideAll h (trk h H)
theorem zqu (h : Heap) (H : Hp) : (zmq h H).objs.size = h.objs.size := PySem.W.hideAll_size _ _
theorem zun {h : Heap} {H : Hp} {b : Addr} {o : Obj} (e : h.get? b = some o) (n : H b = none) : (zmq h H).get? b = some o :=
 PySem.W.hideAll_get _ e fun hm => by
  have q : (H b).isSome = true := (List.mem_filter.mp hm).2;rw [n] at q; simp at q
theorem zzi {h : Heap} {H : Hp} {b : Addr} {o : Obj} (e : (zmq h H).get? b = some o) : h.get? b = some o /\ H b = none := by
 have e' : h.get? b = some o := PySem.W.of_hideAll (trk h H) e;refine ⟨e', ?_⟩;cases q : H b with
 | none => rfl
 | some x =>
  have hm : b ∈ trk h H := List.mem_filter.mpr ⟨Jl.mpr (Qw e'), by simp [q]⟩;have z : (zmq h H).get? b = none := PySem.W.hideAll_none (trk h H) hm;rw [z] at e; cases e
def zBb (g h : Heap) (L : Addr) : List (Addr × Obj) := (List.range h.objs.size).filterMap fun a => if a = L \/ (g.get? a).isSome = true then none else (h.get? a).map fun o => (a, o)
def rest (g h : Heap) (L d : Addr) : List (Addr × Obj) := (zBb g h L).filter fun p => decide (p.1 ≠ d)
structure Mod (K : PySem.W.Frag) (mg : Str -> Option Value) (base : Heap) : Prop where
 kin : K.In base
 glob : base.Ns mainGlobals mg
 blt : ∃ mb, base.Ns builtinsNs mb /\ ∀ x : Str, x ≠ "__name__" -> mb x = bootBuiltins x
 nolimit : base.NoLimit
structure Cx where
 prog : Program
 w : World
 K : PySem.W.Frag
 mg : Str -> Option Value
 base : Heap
 A : Around
 N : List Str
 s₀ : Shared
 H₀ : Hp
 env : Env
 outer : List Env
 stack : List Env
 ex : List Addr
 fn : Str -> Bool
 calm : Bool
 pn : List (Addr × Obj)
 xe : Value -> Shared -> Prop
def frs (l : List Env) : List Addr := l.filterMap (·.frame)
abbrev Cx.fs (X : Cx) : List Addr := frs X.outer
def Vis (sc : Scope) (x : Str) : Prop := sc.names.lookup x = some .local \/ sc.names.lookup x = some .cell \/ sc.names.lookup x = some .free
def Loc (sc : Scope) (x : Str) : Prop := sc.names.lookup x = some .local \/ sc.names.lookup x = some .cell
def zJi (env : Env) (h : Heap) (m : Str -> Option Value) (x : Str) (u : Value) : Prop :=
 (env.kindOf x = some .local /\ m x = some u) \/ ((env.kindOf x = some .cell \/ env.kindOf x = some .free) /\ ∃ c, env.cells.lookup x = some c /\ h.IsCell c (some u))
structure Cx.Ok (X : Cx) : Prop where
 mod : Mod X.K X.mg X.base
 kind : X.env.scope.kind = .function
 glob : X.env.globals = mainGlobals
 blt : X.env.builtins = builtinsNs
 above : X.s₀.heap.objs.size <= X.env.locals
 inj : ∀ x y c, X.env.cells.lookup x = some c -> X.env.cells.lookup y = some c -> x = y
 has : ∀ x, (X.env.kindOf x = some .cell \/ X.env.kindOf x = some .free) -> ∃ c, X.env.cells.lookup x = some c
 cab : ∀ x c, X.fn x = true -> X.env.cells.lookup x = some c -> X.s₀.heap.objs.size <= c
 hd : X.calm = true -> X.A.handled = none
 frames : X.A.frames = some X.stack
 stk : X.stack = X.outer \/ (X.stack = X.env :: X.outer /\ X.env.frame = some X.env.locals)
 exf : ∀ b ∈ X.ex, b ≠ X.env.locals /\ ∀ x c, X.env.cells.lookup x = some c -> c ≠ b
 bs : ∀ b o, X.base.get? b = some o -> X.s₀.heap.get? b = some o /\ X.H₀ b = none
 bsz : X.base.objs.size <= X.s₀.heap.objs.size
 noex : ∀ b o, X.base.get? b = some o -> b ∉ X.ex
 exfs : ∀ b ∈ X.ex, b ∉ X.fs
 funs : X.s₀.heap.FunFrames X.base X.outer
 frf : ∀ b ∈ X.fs, X.H₀ b = none
structure Inv (X : Cx) (pins : List (Addr × Obj)) (σ : List (Option V)) (H : Hp) (s : Shared) : Prop where
 ok : X.Ok
 os : s.os = X.s₀.os
 bare : AllBare s.gens
 base : Un X.fs X.ex X.H₀ H X.s₀.heap s.heap
 loc : ∃ m, s.heap.Ns X.env.locals m /\ ∀ (i : Nat) (x : Str) (v : V), X.N[i]? = some x -> σ[i]? = some (some v) -> Vis X.env.scope x -> ∃ u, RelV v u /\ zJi X.env s.heap m x u
 cell : ∀ x c, X.env.cells.lookup x = some c -> ∃ v, s.heap.IsCell c v
 free : H X.env.locals = none
 freeC : ∀ x c, X.env.cells.lookup x = some c -> H c = none
 pin : ∀ p ∈ X.pn ++ pins, s.heap.get? p.1 = some p.2 /\ H p.1 = none /\ p.1 ≠ X.env.locals /\ p.1 ∉ X.fs /\ ∀ v, p.2.data ≠ .cell v
 hok : HOk X.prog X.w H s.heap
 len : σ.length = X.N.length
section
variable {X : Cx} {pins : List (Addr × Obj)} {σ : List (Option V)} {H H' : Hp} {s : Shared} {h' : Heap}
theorem Cx.Ok.nofr (ok : X.Ok) {b : Addr} {o : Obj} (e : X.base.get? b = some o) : b ∉ X.fs := fun hb => by
 have := (ok.funs.mem hb).1;rw [e] at this; cases this
theorem Inv.bs (I : Inv X pins σ H s) : ∀ b o, X.base.get? b = some o -> s.heap.get? b = some o /\ H b = none := fun b o e =>
 ⟨I.base.keep b o (I.ok.bs b o e).1 (I.ok.bs b o e).2 (I.ok.nofr e) (I.ok.noex b o e), I.base.free b o (I.ok.bs b o e).1 (I.ok.bs b o e).2 (I.ok.noex b o e)⟩
theorem Inv.bk (I : Inv X pins σ H s) : ∀ b o, X.base.get? b = some o -> s.heap.get? b = some o := fun b o e => (I.bs b o e).1
theorem Inv.mod (I : Inv X pins σ H s) : Mod X.K X.mg X.base := I.ok.mod
theorem Inv.kIn (I : Inv X pins σ H s) : X.K.In s.heap := I.ok.mod.kin.keeps I.bk
theorem Inv.lt (I : Inv X pins σ H s) : X.env.locals < s.heap.objs.size := let ⟨_, hn, _⟩ := I.loc; hn.lt
theorem Inv.sz (I : Inv X pins σ H s) : X.s₀.heap.objs.size <= s.heap.objs.size := Qc I.ok.above (Qu I.lt)
theorem Inv.nofs (I : Inv X pins σ H s) {a : Addr} (h : s.heap.objs.size <= a) : a ∉ X.fs := fun hb => by
 obtain ⟨_, o, ho, _⟩ := I.ok.funs.mem hb;exact absurd (Q2 (Qw ho) (Qc I.sz h)) (Js _)
theorem Inv.cne (I : Inv X pins σ H s) : ∀ x c, X.env.cells.lookup x = some c -> c ≠ X.env.locals := fun x c e z => by
 obtain ⟨v, o, ho, hd⟩ := I.cell x c e;obtain ⟨m, ⟨o', es, ep, ho', hd', _⟩, _⟩ := I.loc;rw [z, ho'] at ho; cases ho; rw [hd'] at hd; cases hd
theorem Inv.funs (I : Inv X pins σ H s) : s.heap.FunFrames X.base X.outer := by
 have all : ∀ (l : List Env), (∀ b ∈ frs l, b ∈ X.fs) -> X.s₀.heap.FunFrames X.base l -> s.heap.FunFrames X.base l := by
  intro l
  induction l with
  | nil => intro _ _; trivial
  | cons env r ih =>
   intro hs hl;obtain ⟨hk, ⟨L, o, hf, hn, ho, hd⟩, hr⟩ := hl;have hL : L ∈ X.fs := hs L (by unfold frs; rw [List.filterMap_cons, hf]; exact Qg);obtain ⟨sl, e⟩ := I.base.slot L o ho (I.ok.frf L hL) hL fun z => I.ok.exfs L z hL;exact ⟨hk, ⟨L, _, hf, hn, e, hd⟩, ih (fun b hb => hs b (by unfold frs; rw [List.filterMap_cons, hf]; exact Qk _ hb)) hr⟩
 exact all X.outer (fun _ hb => hb) I.ok.funs
theorem Inv.stack (I : Inv X pins σ H s) : s.heap.FunFrames X.base X.stack := by
 rcases I.ok.stk with e | ⟨e, hf⟩
 ·rw [e]; exact I.funs
 ·rw [e];obtain ⟨m, hn, _⟩ := I.loc;refine .cons (by rw [I.ok.kind]; decide) hf hn ?_ I.funs;exact Heap.get?_none_of_le (Qc I.ok.bsz I.ok.above)
theorem Inv.stkSub (I : Inv X pins σ H s) : ∀ b ∈ frs X.stack, b ∈ X.env.locals :: X.fs := fun b hb => by
 rcases I.ok.stk with e | ⟨e, hf⟩
 ·rw [e] at hb; exact Qk _ hb
 ·rw [e] at hb;unfold frs at hb;rw [List.filterMap_cons, hf] at hb;exact hb
theorem Inv.stkFree (I : Inv X pins σ H s) : ∀ b ∈ frs X.stack, H b = none := fun b hb => by
 rcases Qy.mp (I.stkSub b hb) with e | hb
 ·rw [e]; exact I.free
 ·obtain ⟨_, o, ho, _⟩ := I.ok.funs.mem hb;exact I.base.free b o ho (I.ok.frf b hb) fun z => I.ok.exfs b z hb
theorem Inv.step {g' : Array GenState} {t' : Nat} {d' : Drawn} {ch : List Addr} (I : Inv X pins σ H s)
  (hch : ∀ b ∈ ch, (b ∈ X.ex \/ X.s₀.heap.objs.size <= b) /\ b ≠ X.env.locals /\ (∀ x c, X.env.cells.lookup x = some c -> c ≠ b) /\ ∀ p ∈ X.pn ++ pins, p.1 ≠ b)
  (keep : ∀ b o, b ≠ X.env.locals -> b ∉ X.fs -> b ∉ ch -> s.heap.get? b = some o -> H b = none -> h'.get? b = some o)
  (slot : ∀ b o, b ≠ X.env.locals -> b ∈ X.fs -> b ∉ ch -> s.heap.get? b = some o -> H b = none -> ∃ sl, h'.get? b = some { o with slots := sl }) (free : ∀ b o, b ∉ ch -> s.heap.get? b = some o -> H b = none -> H' b = none)
  (there : ∀ b o, b ∉ ch -> s.heap.get? b = some o -> ∃ o', h'.get? b = some o')
  (tups : ∀ b xs, H b = some (.tup xs) -> H' b = some (.tup xs)) (frzs : ∀ b o u, H b = some (.frz o u) -> H' b = some (.frz o u)) (tbls : ∀ b ps, H b = some (.tbl ps) -> ∃ more, H' b = some (.tbl (ps ++ more)))
  (ns : ∀ m, s.heap.Ns X.env.locals m -> h'.Ns X.env.locals m) (hok : HOk X.prog X.w H' h') (hg : AllBare g') :
  Inv X pins σ H' { s with heap := h', gens := g', drawn := d', toks := t' } := by
 have neL : ∀ b o, X.s₀.heap.get? b = some o -> b ≠ X.env.locals := fun b o e => Qd (Q2 (Qw e) I.ok.above);have neC : ∀ b o, X.s₀.heap.get? b = some o -> b ∉ X.ex -> b ∉ ch := fun b o e hx hb => by
  rcases (hch b hb).1 with z | z
  ·exact hx z
  ·exact absurd (Q2 (Qw e) z) (Js _)
 have cellK : ∀ x c, X.env.cells.lookup x = some c -> ∀ v, s.heap.IsCell c v -> h'.IsCell c v := fun x c e v ⟨o, ho, hd⟩ => by
  have nch : c ∉ ch := fun z => (hch c z).2.2.1 x c e rfl;by_cases hc : c ∈ X.fs
  ·obtain ⟨sl, q⟩ := slot c o (I.cne x c e) hc nch ho (I.freeC x c e);exact ⟨_, q, hd⟩
  ·exact ⟨o, keep c o (I.cne x c e) hc nch ho (I.freeC x c e), hd⟩
 refine ⟨I.ok, I.os, hg, ⟨fun b o e n hb hx => ?_, fun b o e n hb hx => ?_, fun b o e n hx => ?_, fun b o e hx => ?_, fun b xs e => tups b xs (I.base.tups b xs e), fun b o xs e => frzs b o xs (I.base.frzs b o xs e), fun b ps e => ?_⟩, ?_, fun x c e => ?_, ?_, fun x c e => ?_, fun p hp => ?_, hok, I.len⟩
 ·exact keep b o (neL b o e) hb (neC b o e hx) (I.base.keep b o e n hb hx) (I.base.free b o e n hx)
 ·obtain ⟨sl, e1⟩ := I.base.slot b o e n hb hx;obtain ⟨sl', e2⟩ := slot b _ (neL b o e) hb (neC b o e hx) e1 (I.base.free b o e n hx);exact ⟨sl', e2⟩
 ·obtain ⟨o', e1⟩ := I.base.there b o e hx;exact free b o' (neC b o e hx) e1 (I.base.free b o e n hx)
 ·obtain ⟨o', e1⟩ := I.base.there b o e hx;exact there b o' (neC b o e hx) e1
 ·obtain ⟨m1, e1⟩ := I.base.tbls b ps e;obtain ⟨m2, e2⟩ := tbls b _ e1;exact ⟨m1 ++ m2, by rw [e2, Array.append_assoc]⟩
 ·obtain ⟨m, hn, hl⟩ := I.loc;refine ⟨m, ns m hn, fun i x v e1 e2 e3 => ?_⟩;obtain ⟨u, r, l⟩ := hl i x v e1 e2 e3;refine ⟨u, r, ?_⟩;rcases l with l | ⟨k, c, e, z⟩
  ·exact .inl l
  ·exact .inr ⟨k, c, e, cellK x c e _ z⟩
 ·obtain ⟨v, z⟩ := I.cell x c e;exact ⟨v, cellK x c e v z⟩
 ·obtain ⟨m, ⟨o, _, _, ho, _⟩, _⟩ := I.loc;exact free _ o (fun z => (hch _ z).2.1 rfl) ho I.free
 ·obtain ⟨v, o, ho, hd⟩ := I.cell x c e;exact free c o (fun z => (hch c z).2.2.1 x c e rfl) ho (I.freeC x c e)
 ·obtain ⟨e, n, ne, nf, d⟩ := I.pin p hp;have nch : p.1 ∉ ch := fun z => (hch p.1 z).2.2.2 p hp rfl;exact ⟨keep p.1 p.2 ne nf nch e n, free p.1 p.2 nch e n, ne, nf, d⟩
theorem Inv.un {t' : Nat} (I : Inv X pins σ H s) (u : Un X.fs [] H H' s.heap h') (hok : HOk X.prog X.w H' h') : Inv X pins σ H' { s with heap := h', toks := t' } := by
 obtain ⟨m, ⟨o, es, ep, ho, r⟩, _⟩ := id I.loc;obtain ⟨sl, hL⟩ := u.any ho I.free (by simp);exact I.step (g' := s.gens) (d' := s.drawn) (ch := []) (fun _ z => nomatch z) (fun b o _ hb _ e n => u.keep b o e n hb (by simp)) (fun b o _ hb _ e n => u.slot b o e n hb (by simp)) (fun b o _ e n => u.free b o e n (by simp)) (fun b o _ e => u.there b o e (by simp)) u.tups u.frzs u.tbls (fun m' hm => by
  obtain ⟨o', es', ep', ho', r'⟩ := hm;rw [ho] at ho'; cases ho';exact ⟨_, es', ep', hL, r'⟩) hok I.bare
theorem Inv.call {g' : Array GenState} {t' : Nat} {d' : Drawn} {ch : List Addr} (I : Inv X pins σ H s) (u : Un (frs X.stack) ch H H' s.heap h') (hok : HOk X.prog X.w H' h') (hg : AllBare g')
  (hch : ∀ b ∈ ch, (b ∈ X.ex \/ X.s₀.heap.objs.size <= b) /\ b ≠ X.env.locals /\ (∀ x c, X.env.cells.lookup x = some c -> c ≠ b) /\ ∀ p ∈ X.pn ++ pins, p.1 ≠ b) :
  Inv X pins σ H' { s with heap := h', gens := g', drawn := d', toks := t' } := by
 obtain ⟨m, ⟨o, es, ep, ho, r⟩, _⟩ := id I.loc;obtain ⟨sl, hL⟩ := u.any ho I.free fun z => (hch _ z).2.1 rfl;exact I.step (ch := ch) hch (fun b o hL hb hc e n => u.keep b o e n (fun z => (Qy.mp (I.stkSub b z)).elim hL hb) hc) (fun b o _ _ hc e n => u.any e n hc) (fun b o hc e n => u.free b o e n hc) (fun b o hc e => u.there b o e hc) u.tups u.frzs u.tbls (fun m' hm => by
  obtain ⟨o', es', ep', ho', r'⟩ := hm;rw [ho] at ho'; cases ho';exact ⟨_, es', ep', hL, r'⟩) hok hg
theorem Inv.turned {t' : Nat} {it : Addr} (I : Inv X pins σ H s) (k : ∀ b o, b ≠ it -> s.heap.get? b = some o -> h'.get? b = some o) (hn : H it = none) (hL : it ≠ X.env.locals)
  (h1 : it ∈ X.ex \/ X.s₀.heap.objs.size <= it) (h2 : ∀ x c, X.env.cells.lookup x = some c -> c ≠ it) (h3 : ∀ p ∈ X.pn ++ pins, p.1 ≠ it) : Inv X pins σ H { s with heap := h', toks := t' } := by
 have nit : ∀ b u, H b = some u -> b ≠ it := fun b u e z => by rw [z, hn] at e; cases e
 refine I.step (g' := s.gens) (d' := s.drawn) (ch := [it]) (fun b hb => ?_) (fun b o _ _ hc e _ => k b o (fun z => hc (by simp [z])) e) (fun b o _ _ hc e _ => ⟨o.slots, k b o (fun z => hc (by simp [z])) e⟩) (fun _ _ _ _ n => n)
  (fun b o hc e => ⟨o, k b o (fun z => hc (by simp [z])) e⟩) (fun _ _ e => e) (fun _ _ _ e => e) (fun b ps e => ⟨#[], by rw [e]; simp⟩) (fun m hm => ?_) (fun b u e => ?_) I.bare
 ·have e : b = it := by simpa using hb
  subst e;exact ⟨h1, hL, h2, h3⟩
 ·obtain ⟨o, es, ep, ho, r⟩ := hm;exact ⟨o, es, ep, k _ o (Ne.symm hL) ho, r⟩
 ·refine (I.hok b u e).stay (fun c v hc q => k c v ?_ q) (fun _ q => q) fun _ _ q => q;rcases hc with z | z
  ·rw [z]; exact nit b u e
  ·exact nit c _ z
theorem Inv.tok (I : Inv X pins σ H s) (t : Nat) : Inv X pins σ H { s with toks := t } := I.un (h' := s.heap) (t' := t) Un.refl I.hok
theorem Inv.kept {t' : Nat} (I : Inv X pins σ H s) (k : ∀ b u, s.heap.get? b = some u -> h'.get? b = some u) : Inv X pins σ H { s with heap := h', toks := t' } := I.un (Un.kept k) (I.hok.kept k)
theorem Inv.laid {a : Addr} {o : HO} {t' : Nat} (I : Inv X pins σ H s) (k : ∀ b u, s.heap.get? b = some u -> h'.get? b = some u) (hp : s.heap.objs.size <= a) (new : ObjOk X.prog X.w (upd H a o) h' a o) :
  Inv X pins σ (upd H a o) { s with heap := h', toks := t' } := I.un (Un.laid k hp (I.hok.fresh hp)) (I.hok.laid k hp new)
theorem Inv.write {x e : Addr} {o : HO} {t' : Nat} (I : Inv X pins σ H s) (mu : Mut (H x)) (he : e = x \/ H e = some (.own x)) (k : ∀ b u, b ≠ e -> s.heap.get? b = some u -> h'.get? b = some u) (heo : ∃ u, h'.get? e = some u)
  (new : ObjOk X.prog X.w (upd H x o) h' x o) : Inv X pins σ (upd H x o) { s with heap := h', toks := t' } := I.un (Un.write mu he k heo) (I.hok.write mu he k heo new)
theorem Inv.pins_of {pins' : List (Addr × Obj)} (I : Inv X pins σ H s) (h : ∀ p ∈ pins', s.heap.get? p.1 = some p.2 /\ H p.1 = none /\ p.1 ≠ X.env.locals /\ p.1 ∉ X.fs /\ ∀ v, p.2.data ≠ .cell v) : Inv X pins' σ H s :=
 ⟨I.ok, I.os, I.bare, I.base, I.loc, I.cell, I.free, I.freeC, fun p hp => (Q5.mp hp).elim (fun z => I.pin p (Wk _ z)) (h p), I.hok, I.len⟩
theorem zem {N : List Str} (hN : N.Nodup) {i j : Nat} {x : Str} (a : N[i]? = some x) (b : N[j]? = some x) : i = j := by
 obtain ⟨h1, e1⟩ := Qn.mp a;obtain ⟨h2, e2⟩ := Qn.mp b;exact (List.getElem_inj hN).mp (e1.trans e2.symm)
theorem zbk {M : Model} {A : Around} {E : Value -> Shared -> Prop} {i : Nat} {x : Str} {v : V} {u : Value} {Q : Unit -> Shared -> Prop} (I : Inv X pins σ H s) (hN : X.N.Nodup) (hi : X.N[i]? = some x) (hx : Loc X.env.scope x) (r : RelV v u)
  (h : ∀ s', Inv X pins (σ.set i (some v)) H s' -> (∃ a, Heap.SameBut a s.heap s'.heap /\ (a = X.env.locals \/ X.env.cells.lookup x = some a)) -> Q () s') (hf : X.fn x = true \/ X.env.scope.names.lookup x = some .local := by first | exact .inl rfl | exact .inr rfl | assumption) : wpAny M A (storeName X.env x u) Q E s := by
 obtain ⟨m, hn, hl⟩ := id I.loc;have hcls : (X.env.scope.kind == .class || (X.env.scope.kind == .module && X.env.locals != X.env.globals)) = false := by rw [I.ok.kind]; rfl
 have hiσ : i < σ.length := by rw [I.len]; exact (Qn.mp hi).1
 have cne := I.cne;have tracked : ∀ {a : Addr} {h' : Heap}, (∃ o, s.heap.get? a = some o /\ H a = none) -> Heap.SameBut a s.heap h' -> HOk X.prog X.w H h' := fun {a h'} ha hs b ob e => by
  obtain ⟨_, _, hfree⟩ := ha;refine (I.hok b ob e).stay (fun c w' hc q => (hs.2 c ?_).trans q) (fun _ q => q) fun _ _ q => q;rintro rfl;rcases hc with rfl | hc
  ·rw [hfree] at e; cases e
  ·rw [hfree] at hc; cases hc
 rcases hx with hk | hk
 ·refine wpAny_storeName_local hk hn (fun h' hn' hs => ?_) hcls;obtain ⟨oL, _, _, hoL, _⟩ := id hn;refine h _ ⟨I.ok, I.os, I.bare, ⟨fun b o e n hb hx => ?_, fun b o e n hb hx => ?_, I.base.free, fun b o e hx => ?_, I.base.tups, I.base.frzs, I.base.tbls⟩, ⟨_, hn', fun j y v' e1 e2 e3 => ?_⟩, fun y c e => ?_, I.free, I.freeC, fun p hp => ?_, tracked ⟨oL, hoL, I.free⟩ hs, by simpa using I.len⟩ ⟨_, hs, .inl rfl⟩
  ·exact (hs.2 b (Qd (Q2 (Qw e) I.ok.above))).trans (I.base.keep b o e n hb hx)
  ·obtain ⟨sl, e1⟩ := I.base.slot b o e n hb hx;exact ⟨sl, (hs.2 b (Qd (Q2 (Qw e) I.ok.above))).trans e1⟩
  ·obtain ⟨o', e1⟩ := I.base.there b o e hx;exact ⟨o', (hs.2 b (Qd (Q2 (Qw e) I.ok.above))).trans e1⟩
  ·by_cases hj : j = i
   ·subst hj;rw [hi] at e1; cases e1;rw [List.getElem?_set_self hiσ] at e2;cases e2
    exact ⟨u, r, .inl ⟨hk, by simp⟩⟩
   ·rw [List.getElem?_set_ne (Ne.symm hj)] at e2;obtain ⟨u', r', q⟩ := hl j y v' e1 e2 e3;refine ⟨u', r', ?_⟩;rcases q with ⟨k, e⟩ | ⟨k, c, e, z⟩
    ·refine .inl ⟨k, ?_⟩;have : y ≠ x := fun e => hj (zem hN e1 (e ▸ hi));simp [this, e]
    ·exact .inr ⟨k, c, e, z.sameBut hs (cne y c e)⟩
  ·obtain ⟨w', z⟩ := I.cell y c e;exact ⟨w', z.sameBut hs (cne y c e)⟩
  ·obtain ⟨e, n, ne, nf, d⟩ := I.pin p hp;exact ⟨(hs.2 p.1 ne).trans e, n, ne, nf, d⟩
 ·have hfn : X.fn x = true := by
   rcases hf with z | z
   ·exact z
   ·rw [z] at hk; cases hk
  obtain ⟨c, hc⟩ := I.ok.has x (.inl hk);obtain ⟨w', z⟩ := I.cell x c hc;refine wpAny_storeName_cell I.ok.kind hk hc z (fun h' hc' hs => ?_);obtain ⟨oc, hoc, hocd⟩ := id z;refine h { s with heap := h' } ⟨I.ok, I.os, I.bare, ⟨fun b o e n hb hx => ?_, fun b o e n hb hx => ?_, I.base.free, fun b o e hx => ?_, I.base.tups, I.base.frzs, I.base.tbls⟩, ⟨m, hn.sameBut hs (Ne.symm (cne x c hc)), fun j y v' e1 e2 e3 => ?_⟩, fun y c' e => ?_, I.free, I.freeC, fun p hp => ?_, tracked ⟨oc, hoc, I.freeC x c hc⟩ hs, by simpa using I.len⟩ ⟨c, hs, .inr hc⟩
  ·exact (hs.2 b (Qd (Q2 (Qw e) (I.ok.cab x c hfn hc)))).trans (I.base.keep b o e n hb hx)
  ·obtain ⟨sl, e1⟩ := I.base.slot b o e n hb hx;exact ⟨sl, (hs.2 b (Qd (Q2 (Qw e) (I.ok.cab x c hfn hc)))).trans e1⟩
  ·obtain ⟨o', e1⟩ := I.base.there b o e hx;exact ⟨o', (hs.2 b (Qd (Q2 (Qw e) (I.ok.cab x c hfn hc)))).trans e1⟩
  ·by_cases hj : j = i
   ·subst hj;rw [hi] at e1; cases e1;rw [List.getElem?_set_self hiσ] at e2;cases e2
    exact ⟨u, r, .inr ⟨.inl hk, c, hc, hc'⟩⟩
   ·rw [List.getElem?_set_ne (Ne.symm hj)] at e2;obtain ⟨u', r', q⟩ := hl j y v' e1 e2 e3;refine ⟨u', r', ?_⟩;rcases q with q | ⟨k, c', e, z'⟩
    ·exact .inl q
    ·refine .inr ⟨k, c', e, z'.sameBut hs ?_⟩;rintro rfl;exact hj (zem hN e1 (I.ok.inj _ _ _ e hc ▸ hi))
  ·by_cases hcc : c' = c
   ·subst hcc; exact ⟨_, hc'⟩
   ·obtain ⟨w2, z2⟩ := I.cell y c' e;exact ⟨w2, z2.sameBut hs hcc⟩
  ·obtain ⟨e, n, ne, nf, d⟩ := I.pin p hp;refine ⟨(hs.2 p.1 ?_).trans e, n, ne, nf, d⟩;intro q;rw [q, hoc] at e;have q' : oc = p.2 := Option.some.inj e;exact d w' (by rw [<- q']; exact hocd)
theorem zei {M : Model} {A : Around} {E : Value -> Shared -> Prop} {i : Nat} {x : Str} {v : V} {u : Value} {Q : Unit -> Shared -> Prop} (I : Inv X pins σ H s) (hN : X.N.Nodup) (hi : X.N[i]? = some x) (hx : Loc X.env.scope x) (r : RelV v u)
  (h : ∀ s', Inv X pins (σ.set i (some v)) H s' -> Q () s') (hf : X.fn x = true \/ X.env.scope.names.lookup x = some .local := by first | exact .inl rfl | exact .inr rfl | assumption) : wpAny M A (storeName X.env x u) Q E s :=
 zbk I hN hi hx r (fun s' I' _ => h s' I') hf
theorem Inv.call' {s' : Shared} {ch : List Addr} (I : Inv X pins σ H s) (ho : s'.os = s.os) (u : Un (frs X.stack) ch H H' s.heap s'.heap) (hok : HOk X.prog X.w H' s'.heap) (hg : AllBare s'.gens)
  (hch : ∀ b ∈ ch, (b ∈ X.ex \/ X.s₀.heap.objs.size <= b) /\ b ≠ X.env.locals /\ (∀ x c, X.env.cells.lookup x = some c -> c ≠ b) /\ ∀ p ∈ X.pn ++ pins, p.1 ≠ b) : Inv X pins σ H' s' := by
 obtain ⟨h', g', d', t', o'⟩ := s';have e : o' = s.os := ho;subst e;exact I.call (g' := g') (t' := t') (d' := d') u hok hg hch
end
abbrev XK := Value -> Option Addr -> Hp -> Prop
abbrev St := List (Option V)
abbrev VK := V -> Hp -> Prop
abbrev TE := St -> Hp -> VK -> Prop
abbrev TT := St -> Hp -> (Bool -> Hp -> Prop) -> Prop
abbrev TA := St -> Hp -> (List V -> Hp -> Prop) -> Prop
structure gP where
 nx : St -> Hp -> Prop
 rt : VK
 bk : St -> Hp -> Prop := fun _ _ => False
 ct : St -> Hp -> Prop := fun _ _ => False
abbrev TS := gP -> St -> Hp -> Prop
def EP (X : Cx) (pins : List (Addr × Obj)) (σ : St) (Q : VK) (u : Value) (s' : Shared) : Prop := ∃ v H', Inv X pins σ H' s' /\ RelV v u /\ Q v H'
def TP (X : Cx) (pins : List (Addr × Obj)) (σ : St) (Q : Bool -> Hp -> Prop) (b : Bool) (s' : Shared) : Prop := ∃ H', Inv X pins σ H' s' /\ Q b H'
def AP (X : Cx) (pins : List (Addr × Obj)) (σ : St) (Q : List V -> Hp -> Prop) (us : List Value) (s' : Shared) : Prop := ∃ vs H', Inv X pins σ H' s' /\ Vals vs us /\ Q vs H'
def SP (X : Cx) (pins : List (Addr × Obj)) (D : gP) (f : Flow) (s' : Shared) : Prop :=
 match f with
 | .next => ∃ σ' H', Inv X pins σ' H' s' /\ D.nx σ' H'
 | .brk => ∃ σ' H', Inv X pins σ' H' s' /\ D.bk σ' H'
 | .cont => ∃ σ' H', Inv X pins σ' H' s' /\ D.ct σ' H'
 | .ret u => ∃ v σ' H', Inv X pins σ' H' s' /\ RelV v u /\ D.rt v H'
def PE (X : Cx) (e : Expr) (t : TE) : Prop :=
 ∀ (pins : List (Addr × Obj)) (s : Shared) (σ : St) (H : Hp) (Q : VK), Inv X pins σ H s -> t σ H Q -> wpAny (model X.prog X.w) X.A (eval e X.env) (EP X pins σ Q) X.xe s
def PT (X : Cx) (e : Expr) (t : TT) : Prop :=
 ∀ (pins : List (Addr × Obj)) (s : Shared) (σ : St) (H : Hp) (Q : Bool -> Hp -> Prop), Inv X pins σ H s -> t σ H Q -> wpAny (model X.prog X.w) X.A (isTrue e X.env (eval e X.env)) (TP X pins σ Q) X.xe s
def PW (X : Cx) (e : Expr) (t : TT) : Prop :=
 ∀ (whole : Sem Value) (pins : List (Addr × Obj)) (s : Shared) (σ : St) (H : Hp) (Q : Bool -> Hp -> Prop), Inv X pins σ H s -> t σ H Q -> wpAny (model X.prog X.w) X.A (isTrue e X.env whole) (TP X pins σ Q) X.xe s
theorem PW.pt {X : Cx} {e : Expr} {t : TT} (h : PW X e t) : PT X e t := h _
def PA (X : Cx) (es : List Expr) (t : TA) : Prop :=
 ∀ (pos : Pos) (pins : List (Addr × Obj)) (s : Shared) (σ : St) (H : Hp) (Q : List V -> Hp -> Prop), Inv X pins σ H s -> t σ H Q -> wpAny (model X.prog X.w) X.A (spliced (backTo pos (starEach es X.env))) (AP X pins σ Q) X.xe s
def PS (X : Cx) (st : Stmt) (t : TS) : Prop :=
 ∀ (pins : List (Addr × Obj)) (s : Shared) (σ : St) (H : Hp) (D : gP), Inv X pins σ H s -> t D σ H -> wpAny (model X.prog X.w) X.A (exec st X.env) (SP X pins D) X.xe s
def PSs (X : Cx) (st : List Stmt) (t : TS) : Prop :=
 ∀ (pins : List (Addr × Obj)) (s : Shared) (σ : St) (H : Hp) (D : gP), Inv X pins σ H s -> t D σ H -> wpAny (model X.prog X.w) X.A (execs st X.env) (SP X pins D) X.xe s
theorem thn {α : Type} {t : Sem α} {Q Q' : α -> Shared -> Prop} {M : Model} {A : Around} {E : Value -> Shared -> Prop} {s : Shared} (h : wpAny M A t Q E s) (hQ : ∀ a s, Q a s -> Q' a s) : wpAny M A t Q' E s := wpAny_mono h hQ fun _ _ x => x
section
variable {X : Cx}
def zex (i : Nat) : TE := fun σ H Q => ∃ v, σ[i]? = some (some v) /\ Q v H
def tC (v : V) : TE := fun _ H Q => Q v H
theorem zwj {i : Nat} {x : Str} {pos : Pos} (hN : X.N[i]? = some x) (hv : Vis X.env.scope x) (hd : (x == ("__debug__" : Str)) = false := by decide) (hcd : (x == ("__classdict__" : Str)) = false := by decide) : PE X (.Name x pos) (zex i) := by
 intro pins s σ H Q I h;obtain ⟨v, e, h⟩ := h;obtain ⟨m, hn, hl⟩ := I.loc;obtain ⟨u, r, l⟩ := hl i x v hN e hv;have fin : EP X pins σ Q u s := ⟨v, H, I, r, h⟩;rcases l with ⟨hk, hm⟩ | ⟨hk, c, hc, hcell⟩
 ·exact wpAny_Name (wpAny_loadName_local I.ok.kind hk hn hm fin) hd
 ·rcases hk with hk | hk
  ·exact wpAny_Name (wpAny_loadName_cell I.ok.kind hk hc hcell fin) hd
  ·exact wpAny_Name (wpAny_loadName_free I.ok.kind hk hc hcell fin hcd) hd
theorem zF {i j pos} : PE X (.Constant (.int i) j pos) (tC (.int i)) := fun _ _ _ H _ I h => wpAny_Constant_int ⟨.int i, H, I.tok _, ⟨_, rfl⟩, h⟩
theorem gT {b j pos} : PE X (.Constant (.bool b) j pos) (tC (.bl b)) := fun _ _ _ H _ I h => Constant_bool ⟨.bl b, H, I, rfl, h⟩
theorem zDp {j pos} : PE X (.Constant .none j pos) (tC .non) := fun _ _ _ H _ I h => Constant_none ⟨.non, H, I, rfl, h⟩
theorem zE {x j pos} : PE X (.Constant (.str x) j pos) (tC (.str x)) := fun _ _ _ H _ I h => Calls.Constant_str ⟨.str x, H, I.tok _, ⟨_, rfl⟩, h⟩
def Gl (X : Cx) (x : Str) : Prop := X.env.kindOf x = some .globalImplicit
theorem qW {E : Value -> Shared -> Prop} {pins : List (Addr × Obj)} {s : Shared} {σ : St} {H : Hp} {x : Str} {u : Value} {pos : Pos} {Q : Value -> Shared -> Prop} (I : Inv X pins σ H s) (hg : Gl X x) (hm : X.mg x = some u) (h : Q u s)
  (hd : (x == ("__debug__" : Str)) = false := by decide) : wpAny (model X.prog X.w) X.A (eval (.Name x pos) X.env) Q E s :=
 Calls.Name_function_global I.ok.kind hg (Calls.loadGlobal_global (by rw [I.ok.glob]; exact I.mod.glob.keeps I.bk) hm h) hd
theorem zaf {E : Value -> Shared -> Prop} {pins : List (Addr × Obj)} {s : Shared} {σ : St} {H : Hp} {x : Str} {u : Value} {pos : Pos} {Q : Value -> Shared -> Prop} (I : Inv X pins σ H s) (hg : Gl X x) (hm : X.mg x = none) (hv : bootBuiltins x = some u) (h : Q u s)
  (hn : x ≠ "__name__" := by decide) (hd : (x == ("__debug__" : Str)) = false := by decide) : wpAny (model X.prog X.w) X.A (eval (.Name x pos) X.env) Q E s := by
 obtain ⟨mb, h1, h2⟩ := I.mod.blt;exact Calls.Name_function_global I.ok.kind hg (Calls.loadGlobal_builtin (by rw [I.ok.glob]; exact I.mod.glob.keeps I.bk) hm (by rw [I.ok.blt]; exact h1.keeps I.bk) ((h2 x hn).trans hv) h) hd
theorem yJ {x : Str} {v : V} {u : Value} {pos : Pos} (hg : Gl X x) (hm : X.mg x = some u) (r : RelV v u) (hd : (x == ("__debug__" : Str)) = false := by decide) : PE X (.Name x pos) (tC v) :=
 fun _ _ _ H _ I h => qW I hg hm ⟨v, H, I, r, h⟩ hd
theorem gH {x : Str} {v : V} {u : Value} {pos : Pos} (hg : Gl X x) (hm : X.mg x = none) (hv : bootBuiltins x = some u) (r : RelV v u) (hn : x ≠ "__name__" := by decide) (hd : (x == ("__debug__" : Str)) = false := by decide) : PE X (.Name x pos) (tC v) :=
 fun _ _ _ H _ I h => zaf I hg hm hv ⟨v, H, I, r, h⟩ hn hd
variable {a b : Expr} {ta tb : TE} {pos : Pos}
def PC (X : Cx) (op : CmpOp) (a b : Expr) (t : TE) : Prop :=
 ∀ (pins : List (Addr × Obj)) (s : Shared) (σ : St) (H : Hp) (Q : VK), Inv X pins σ H s -> t σ H Q ->
  wpAny (model X.prog X.w) X.A (eval a X.env) (fun v s₁ => wpAny (model X.prog X.w) X.A (eval b X.env) (fun u s₂ => wpAny (model X.prog X.w) X.A (compareOp op v u) (EP X pins σ Q) X.xe s₂) X.xe s₁) X.xe s
def tB (t : TE) : TT := fun σ H Q => t σ H fun x H1 => ∃ c, x = .bl c /\ Q c H1
theorem zDj {op : CmpOp} {t : TE} (h : PC X op a b t) (h1 : behindInMarks op b = false := by first | exact nobehind _ (by decide) (by decide) | rfl) : PT X (.Compare a [op] [b] pos) (tB t) := by
 intro pins s σ H Q I hw;refine wpAny_isTrue_Compare1 (thn (h pins s σ H _ I hw) fun v s1 h1 => thn h1 fun u s2 h2 => thn h2 fun c s3 ⟨x, H1, I1, r1, q1⟩ => ?_) h1;obtain ⟨d, rfl, q⟩ := q1;cases r1
 exact wpAny_truthy_bool ⟨H1, I1, q⟩
theorem wG {e : Expr} {t : TE} (h : PE X e t) (he : ∀ whole, isTrue e X.env whole = (do let v <- whole; standAt e.pos; holding [v] (truthy v)) := by intro _; rfl) : PT X e (tB t) := by
 intro pins s σ H Q I hw;refine isTrue_plain (thn (h pins s σ H _ I hw) fun v s1 ⟨x, H1, I1, r1, q1⟩ => ?_) (he _);obtain ⟨d, rfl, q⟩ := q1;cases r1
 exact wpAny_truthy_bool ⟨H1, I1, q⟩
variable {tA tB' : TT} {rest : List Expr}
def zIr (t u : TT) : TT := fun σ H Q => t σ H fun c H1 => if c = true then u σ H1 Q else Q false H1
def tOr (t u : TT) : TT := fun σ H Q => t σ H fun c H1 => if c = true then Q true H1 else u σ H1 Q
def zHu (t : TT) : TT := fun σ H Q => t σ H fun c H1 => Q (!c) H1
theorem zbb (ha : PT X a tA) : PW X (.BoolOp .And [a] pos) tA := by
 intro wh pins s σ H Q I h;refine isTrue_and (thn (ha pins s σ H Q I h) fun c s1 e => ?_);cases c with
 | true => exact isTrue_and_nil e
 | false => exact e
theorem zcr (ha : PT X a tA) : PW X (.BoolOp .Or [a] pos) tA := by
 intro wh pins s σ H Q I h;refine isTrue_or (thn (ha pins s σ H Q I h) fun c s1 e => ?_);cases c with
 | false => exact isTrue_or_nil e
 | true => exact e
theorem hZ (ha : PT X a tA) (hb : PW X (.BoolOp .And (b :: rest) pos) tB') : PW X (.BoolOp .And (a :: b :: rest) pos) (zIr tA tB') := by
 intro wh pins s σ H Q I h;refine isTrue_and (thn (ha pins s σ H _ I h) fun c s1 ⟨H1, I1, q1⟩ => ?_);cases c with
 | true => exact hb wh pins s1 σ H1 Q I1 q1
 | false => exact ⟨H1, I1, q1⟩
theorem zit (ha : PT X a tA) (hb : PW X (.BoolOp .Or (b :: rest) pos) tB') : PW X (.BoolOp .Or (a :: b :: rest) pos) (tOr tA tB') := by
 intro wh pins s σ H Q I h;refine isTrue_or (thn (ha pins s σ H _ I h) fun c s1 ⟨H1, I1, q1⟩ => ?_);cases c with
 | true => exact ⟨H1, I1, q1⟩
 | false => exact hb wh pins s1 σ H1 Q I1 q1
theorem vF (ha : PT X a tA) : PT X (.UnaryOp .Not a pos) (zHu tA) := by
 intro pins s σ H Q I h;exact isTrue_not (ha pins s σ H (fun c H1 => Q (!c) H1) I h)
def zGj (ta tb : TE) : TE := fun σ H Q => ta σ H fun x H1 => ∃ c, x = .bl c /\ if c = true then tb σ H1 Q else Q (.bl false) H1
def zHt (ta tb : TE) : TE := fun σ H Q => ta σ H fun x H1 => ∃ c, x = .bl c /\ if c = true then Q (.bl true) H1 else tb σ H1 Q
def zGd (ta : TE) : TE := fun σ H Q => ta σ H fun x H1 => ∃ c, x = .bl c /\ Q (.bl (!c)) H1
theorem zfe {op} {t : TE} (h : PE X a t) : PE X (.BoolOp op [a] pos) t := fun pins s σ H Q I hw => BoolOp_one (h pins s σ H Q I hw)
theorem znl (ha : PE X a ta) (hb : PE X (.BoolOp .And (b :: rest) pos) tb) : PE X (.BoolOp .And (a :: b :: rest) pos) (zGj ta tb) := by
 intro pins s σ H Q I h;refine BoolOp_and (thn (ha pins s σ H _ I h) fun v s1 ⟨x, H1, I1, r1, q1⟩ => ?_);obtain ⟨c, rfl, q1⟩ := q1;cases r1
 refine wpAny_truthy_bool ?_;cases c with
 | true => exact hb pins s1 σ H1 Q I1 q1
 | false => exact ⟨.bl false, H1, I1, rfl, q1⟩
theorem zBw (ha : PE X a ta) (hb : PE X (.BoolOp .Or (b :: rest) pos) tb) : PE X (.BoolOp .Or (a :: b :: rest) pos) (zHt ta tb) := by
 intro pins s σ H Q I h;refine BoolOp_or (thn (ha pins s σ H _ I h) fun v s1 ⟨x, H1, I1, r1, q1⟩ => ?_);obtain ⟨c, rfl, q1⟩ := q1;cases r1
 refine wpAny_truthy_bool ?_;cases c with
 | false => exact hb pins s1 σ H1 Q I1 q1
 | true => exact ⟨.bl true, H1, I1, rfl, q1⟩
theorem zwk (ha : PE X a ta) : PE X (.UnaryOp .Not a pos) (zGd ta) := by
 intro pins s σ H Q I h;refine UnaryOp_ (thn (ha pins s σ H _ I h) fun v s1 ⟨x, H1, I1, r1, q1⟩ => ?_);obtain ⟨c, rfl, q1⟩ := q1;cases r1
 exact not_of (wpAny_truthy_bool ⟨.bl (!c), H1, I1, rfl, q1⟩)
def tIf (t : TT) (ta tb : TE) : TE := fun σ H Q => t σ H fun c H1 => if c = true then ta σ H1 Q else tb σ H1 Q
theorem qK {c : Expr} (hc : PT X c tA) (ha : PE X a ta) (hb : PE X b tb) : PE X (.IfExp c a b pos) (tIf tA ta tb) := by
 intro pins s σ H Q I h;refine wpAny_IfExp (thn (hc pins s σ H _ I h) fun d s1 ⟨H1, I1, q1⟩ => ?_);cases d with
 | true => exact ha pins s1 σ H1 Q I1 q1
 | false => exact hb pins s1 σ H1 Q I1 q1
end
def SqL (K : PySem.W.Frag) (H : Hp) (a : Addr) (xs : List V) : Prop :=
 Rd H a (.lst xs) \/
  ∃ (o : Obj) (its : Array Value) (n : Nat), K.lookup a = some o /\ o.cls = .type "list" /\ o.dict = none /\ o.data = .seq its n /\ its.size <= sizeLine /\ Vals xs its.toList
def SqT (K : PySem.W.Frag) (H : Hp) (a : Addr) (xs : List V) : Prop :=
 Rd H a (.tup xs) \/
  ∃ (o : Obj) (its : Array Value) (n : Nat), K.lookup a = some o /\ o.cls = .type "tuple" /\ o.data = .seq its n /\ its.size <= sizeLine /\ Vals xs its.toList
def zJh : Value -> Option V
 | .none => some .non
 | .bool b => some (.bl b)
 | .int i _ => some (.int i)
 | .str x _ => some (.str x)
 | .bytes b _ => some (.byt b)
 | .float b _ => some (.flt b)
 | .ref a => some (.ref a)
 | .type n => some (.ty n)
 | _ => none
theorem RelV.abs {x : V} {u : Value} (r : RelV x u) : zJh u = some x := by
 cases x with
 | non => cases r; rfl
 | bl _ => cases r; rfl
 | int _ => obtain ⟨t, rfl⟩ := r; rfl
 | str _ => obtain ⟨t, rfl⟩ := r; rfl
 | byt _ => obtain ⟨t, rfl⟩ := r; rfl
 | flt _ => obtain ⟨t, rfl⟩ := r; rfl
 | ref _ => cases r; rfl
 | ty _ => cases r; rfl
theorem RelV.inj {x y : V} {u : Value} (r : RelV x u) (q : RelV y u) : x = y := Option.some.inj (r.abs.symm.trans q.abs)
theorem Vals.inj : ∀ {xs ys : List V} {us : List Value}, Vals xs us -> Vals ys us -> xs = ys
 | _, _, _, .nil, .nil => rfl
 | _, _, _, .cons r t, .cons r' t' => by rw [r.inj r', Vals.inj t t']
section
variable {X : Cx} {pins : List (Addr × Obj)} {σ : St} {H : Hp} {s : Shared} {a : Addr} {xs ys : List V}
theorem SqL.of {K : PySem.W.Frag} (h : H a = some (.lst xs)) : SqL K H a xs := .inl (.inl h)
theorem SqT.of {K : PySem.W.Frag} (h : H a = some (.tup xs)) : SqT K H a xs := .inl (.inl h)
theorem Inv.list (I : Inv X pins σ H s) (h : SqL X.K H a xs) : ∃ its : List Value, Vals xs its /\ PlainL s.heap a its.toArray /\ xs.length <= sizeLine := by
 rcases h with h | ⟨o, its, n, hk, hc, hd, hs, hz, r⟩
 ·obtain ⟨z, its, n, r, e⟩ := h.ok I.hok;exact ⟨its, r, ⟨_, n, e, rfl, rfl, rfl⟩, z⟩
 ·refine ⟨its.toList, r, ⟨o, n, I.kIn a o hk, hc, hd, by simpa using hs⟩, ?_⟩;have e := r.length;simp only [Array.length_toList] at e;lia
theorem Inv.tuple (I : Inv X pins σ H s) (h : SqT X.K H a xs) : ∃ its : List Value, Vals xs its /\ IsTup s.heap a its.toArray /\ xs.length <= sizeLine := by
 rcases h with h | ⟨o, its, n, hk, hc, hs, hz, r⟩
 ·obtain ⟨z, its, r, p⟩ := h.ok I.hok;exact ⟨its, r, p, z⟩
 ·refine ⟨its.toList, r, ⟨o, I.kIn a o hk, hc, n, by simpa using hs⟩, ?_⟩;have e := r.length;simp only [Array.length_toList] at e;lia
theorem Inv.list_inj (I : Inv X pins σ H s) (h : SqL X.K H a xs) (h' : SqL X.K H a ys) : xs = ys := by
 obtain ⟨its, r, ⟨o, n, e, _, _, d⟩, _⟩ := I.list h;obtain ⟨its', r', ⟨o', n', e', _, _, d'⟩, _⟩ := I.list h';rw [e] at e'; cases e';rw [d] at d';injection d' with d1 _;have : its = its' := by simpa using congrArg Array.toList d1
 subst this;exact r.inj r'
theorem Inv.tuple_inj (I : Inv X pins σ H s) (h : SqT X.K H a xs) (h' : SqT X.K H a ys) : xs = ys := by
 obtain ⟨its, r, ⟨o, e, _, n, d⟩, _⟩ := I.tuple h;obtain ⟨its', r', ⟨o', e', _, n', d'⟩, _⟩ := I.tuple h';rw [e] at e'; cases e';rw [d] at d';injection d' with d1 _;have : its = its' := by simpa using congrArg Array.toList d1
 subst this;exact r.inj r'
end
abbrev Cx.wish (X : Cx) (E : Value -> Shared -> Prop) : Cx := { X with xe := E }
abbrev Cx.nox (X : Cx) : Cx := X.wish fun _ _ => False
theorem Cx.Ok.wish {X : Cx} (ok : X.Ok) (E : Value -> Shared -> Prop) : (X.wish E).Ok :=
 ⟨ok.mod, ok.kind, ok.glob, ok.blt, ok.above, ok.inj, ok.has, ok.cab, ok.hd, ok.frames, ok.stk, ok.exf, ok.bs, ok.bsz, ok.noex, ok.exfs, ok.funs, ok.frf⟩
theorem Cx.Ok.unwish {X : Cx} {E : Value -> Shared -> Prop} (ok : (X.wish E).Ok) : X.Ok :=
 ⟨ok.mod, ok.kind, ok.glob, ok.blt, ok.above, ok.inj, ok.has, ok.cab, ok.hd, ok.frames, ok.stk, ok.exf, ok.bs, ok.bsz, ok.noex, ok.exfs, ok.funs, ok.frf⟩
section
variable {X : Cx} {pins : List (Addr × Obj)} {σ : St} {H : Hp} {s : Shared} {E : Value -> Shared -> Prop}
theorem Inv.wish (I : Inv X pins σ H s) (E : Value -> Shared -> Prop) : Inv (X.wish E) pins σ H s := ⟨I.ok.wish E, I.os, I.bare, I.base, I.loc, I.cell, I.free, I.freeC, I.pin, I.hok, I.len⟩
theorem Inv.unwish (I : Inv (X.wish E) pins σ H s) : Inv X pins σ H s := ⟨I.ok.unwish, I.os, I.bare, I.base, I.loc, I.cell, I.free, I.freeC, I.pin, I.hok, I.len⟩
theorem SP.unwish {D : gP} {f : Flow} {s' : Shared} (h : SP (X.wish E) pins D f s') : SP X pins D f s' := by
 cases f with
 | next => obtain ⟨σ', H', I, q⟩ := h; exact ⟨σ', H', I.unwish, q⟩
 | brk => obtain ⟨σ', H', I, q⟩ := h; exact ⟨σ', H', I.unwish, q⟩
 | cont => obtain ⟨σ', H', I, q⟩ := h; exact ⟨σ', H', I.unwish, q⟩
 | ret u => obtain ⟨v, σ', H', I, r, q⟩ := h; exact ⟨v, σ', H', I.unwish, r, q⟩
theorem PSs.nox {st : List Stmt} {t : TS} (h : PSs X.nox st t) : PSs X st t := fun pins s σ H D I hw =>
 wpAny_mono (h pins s σ H D (I.wish _) hw) (fun _ _ q => q.unwish) fun _ _ z => False.elim z
end
section
variable {X : Cx} {st : Stmt} {rest : List Stmt} {t u : TS} {e : Expr} {te : TE} {pos : Pos}
def zGe : TS := fun D σ H => D.nx σ H
def zxu (t u : TS) : TS := fun D σ H => t { D with nx := u D } σ H
theorem zQ : PSs X [] zGe := fun _ _ σ H _ I h => wpAny_execs_nil ⟨σ, H, I, h⟩
theorem zD (h1 : PS X st t) (h2 : PSs X rest u) : PSs X (st :: rest) (zxu t u) := by
 intro pins s σ H D I h;refine wpAny_execs_cons (thn (h1 pins s σ H { D with nx := u D } I h) fun f s1 q => ?_);cases f with
 | next =>
  obtain ⟨σ', H', I', q⟩ := q;exact h2 pins s1 σ' H' D I' q
 | ret v => exact q
 | brk => exact q
 | cont => exact q
theorem zG (h1 : PS X st t) : PSs X [st] t := by
 intro pins s σ H D I h;refine wpAny_execs_cons (thn (h1 pins s σ H D I h) fun f s1 q => ?_);cases f with
 | next => exact wpAny_execs_nil q
 | ret v => exact q
 | brk => exact q
 | cont => exact q
theorem Inv.quiet {pins : List (Addr × Obj)} {σ : St} {H : Hp} {s : Shared} (I : Inv X pins σ H s) : interactive X.env = false := by simp [interactive, I.ok.kind]
def zGh (te : TE) : TS := fun D σ H => te σ H fun _ H1 => D.nx σ H1
theorem xI (he : PE X e te) (hs : swapsWith e none pos.line X.env = pure false := by rfl) : PS X (.Expr e pos) (zGh te) := by
 intro pins s σ H D I h;exact wpAny_Expr_any (thn (he pins s σ H _ I h) fun v s1 ⟨x, H1, I1, r1, q1⟩ => ⟨σ, H1, I1, q1⟩) I.quiet hs
def zHs (te : TE) : TS := fun D σ H => te σ H D.rt
theorem zV (he : PE X e te) : PS X (.Return (some e) pos) (zHs te) := by
 intro pins s σ H D I h;exact wpAny_Return_some (thn (he pins s σ H _ I h) fun v s1 ⟨x, H1, I1, r1, q1⟩ => ⟨x, σ, H1, I1, r1, q1⟩)
def zsk (c : TT) (t u : TS) : TS := fun D σ H => c σ H fun b H1 => if b = true then t D σ H1 else u D σ H1
theorem yL {c : Expr} {a b : List Stmt} {tc : TT} (hc : PT X c tc) (ha : PSs X a t) (hb : PSs X b u) : PS X (.If c a b pos) (zsk tc t u) := by
 intro pins s σ H D I h;refine wpAny_If (thn (hc pins s σ H _ I h) fun d s1 ⟨H1, I1, q1⟩ => ?_);cases d with
 | true => exact ha pins s1 σ H1 D I1 q1
 | false => exact hb pins s1 σ H1 D I1 q1
def zCw : TS := fun _ _ _ => False
theorem x8 {sts : List Stmt} : PSs X sts zCw := fun _ _ _ _ _ _ h => h.elim
end
abbrev TG := V -> St -> Hp -> (St -> Hp -> Prop) -> Prop
abbrev TGs := List V -> St -> Hp -> (St -> Hp -> Prop) -> Prop
def PG (X : Cx) (target : Expr) (t : TG) : Prop :=
 ∀ (pins : List (Addr × Obj)) (s : Shared) (σ : St) (H : Hp) (v : V) (u : Value) (Q : St -> Hp -> Prop), Inv X pins σ H s -> RelV v u -> t v σ H Q ->
  wpAny (model X.prog X.w) X.A (assign target X.env u) (fun _ s' => ∃ σ' H', Inv X pins σ' H' s' /\ Q σ' H') X.xe s
def PGs (X : Cx) (ts : List Expr) (t : TGs) : Prop :=
 ∀ (pins : List (Addr × Obj)) (s : Shared) (σ : St) (H : Hp) (vs : List V) (us : List Value) (Q : St -> Hp -> Prop), Inv X pins σ H s -> Vals vs us -> t vs σ H Q ->
  wpAny (model X.prog X.w) X.A (assignInOrder ((assignEach ts X.env).map (·.2)) us) (fun _ s' => ∃ σ' H', Inv X pins σ' H' s' /\ Q σ' H') X.xe s
abbrev zFs := V -> V -> V -> Hp -> (Hp -> Prop) -> Prop
def zIk (X : Cx) (t : zFs) : Prop :=
 ∀ (pins : List (Addr × Obj)) (s : Shared) (σ : St) (H : Hp) (o i v : V) (ov iv u : Value) (Q : Hp -> Prop), Inv X pins σ H s -> RelV o ov -> RelV i iv -> RelV v u -> t o i v H Q ->
  wpAny (model X.prog X.w) X.A (setItem ov iv u) (fun _ s' => ∃ H', Inv X pins σ H' s' /\ Q H') X.xe s
section
variable {X : Cx} {pos : Pos}
def xH (i : Nat) : TG := fun v σ H Q => Q (σ.set i (some v)) H
theorem yE {i : Nat} {x : Str} (hN : X.N.Nodup) (hi : X.N[i]? = some x) (hx : Loc X.env.scope x) (hf : X.fn x = true \/ X.env.scope.names.lookup x = some .local := by first | exact .inl rfl | exact .inr rfl | assumption) : PG X (.Name x pos) (xH i) := by
 intro pins s σ H v u Q I r h;exact wpAny_assign_Name (zei I hN hi hx r (fun s' I' => ⟨_, H, I', h⟩) hf)
def zzu : TGs := fun vs σ H Q => vs = [] /\ Q σ H
def zcl (t : TG) (u : TGs) : TGs := fun vs σ H Q => ∃ v r, vs = v :: r /\ t v σ H fun σ' H' => u r σ' H' Q
theorem jW : PGs X [] zzu := by
 intro pins s σ H vs us Q I r h;obtain ⟨e, h⟩ := h;subst e;cases r
 exact assignInOrder_nil ⟨σ, H, I, h⟩
theorem xV {e : Expr} {es : List Expr} {t : TG} {u : TGs} (h1 : PG X e t) (h2 : PGs X es u)
  (hs : (assignEach (e :: es) X.env).map (·.2) = assign e X.env :: (assignEach es X.env).map (·.2) := by rfl) : PGs X (e :: es) (zcl t u) := by
 intro pins s σ H vs us Q I r h;obtain ⟨v, vr, e1, h⟩ := h;subst e1;cases r with
 | cons r rr =>
  rw [hs];refine assignInOrder_cons (thn (h1 pins s σ H _ _ _ I r h) fun _ s1 ⟨σ1, H1, I1, q1⟩ => ?_);exact h2 pins s1 σ1 H1 _ _ Q I1 rr q1
def zws (K : PySem.W.Frag) (n : Nat) (t : TGs) : TG := fun v σ H Q => ∃ a xs, v = .ref a /\ SqT K H a xs /\ xs.length = n /\ t xs σ H Q
theorem zDo {es : List Expr} {k : Nat} {t : TGs} {n : Nat} (hc : X.calm = true) (h : PGs X es t)
  (hn : (assignEach es X.env).length = n := by rfl) (hst : (assignEach es X.env).findIdx? (·.1) = none := by rfl) : PG X (.Tuple es k pos) (zws X.K n t) := by
 intro pins s σ H v u Q I r hw;obtain ⟨a, xs, e1, hq, hl, hw⟩ := hw;subst e1;cases r
 obtain ⟨its, rv, ht, hz⟩ := I.tuple hq;refine assign_Tuple_tuple (I.ok.hd hc) ht (by simp [hn, <- hl, rv.length]) hst fun h' hx => ?_;have I1 : Inv X pins σ H { s with heap := h' } := I.kept (t' := s.toks) fun b o e => hx b o (Qd (Qw e)) e;exact h pins _ σ H xs _ Q I1 (by simpa using rv) hw
def zJd (to ti : TE) (t : zFs) : TG := fun v σ H Q => to σ H fun o H1 => ti σ H1 fun i H2 => t o i v H2 fun H3 => Q σ H3
theorem zct {o i : Expr} {to ti : TE} {t : zFs} (ho : PE X o to) (hi : PE X i ti) (hs : zIk X t)
  (ha : ∀ v, assign (.Subscript o i pos) X.env v = (do
   let ov <- holding [v] (eval o X.env)
   let iv <- holding [v, ov] (eval i X.env)
   standAt pos
   holding [v, ov, iv] (setItem ov iv v)
   release [v, ov, iv] []) := by intro _; rfl) : PG X (.Subscript o i pos) (zJd to ti t) := by
 intro pins s σ H v u Q I r h;rw [ha];refine Qq (wpAny_holding (thn (ho pins s σ H _ I h) fun ov s1 ⟨x, H1, I1, r1, q1⟩ => ?_));refine Qq (wpAny_holding (thn (hi pins s1 σ H1 _ I1 q1) fun iv s2 ⟨y, H2, I2, r2, q2⟩ => ?_));refine Qq (wpAny_standAt (Qq (wpAny_holding (thn (hs pins s2 σ H2 x y v ov iv u _ I2 r1 r2 r q2) fun _ s3 ⟨H3, I3, q3⟩ => ?_))));exact wpAny_release ⟨σ, H3, I3, q3⟩
def zHw (te : TE) (g : TG) : TS := fun D σ H => te σ H fun x H1 => g x σ H1 D.nx
theorem zab {tg e : Expr} {te : TE} {g : TG} (he : PE X e te) (hg : PG X tg g) (hs : swapsWithSole [tg] e pos.line X.env = pure false := by rfl) (hw : swappedStores [tg] e X.env = pure none := by rfl)
  (h1 : (assignEach [tg] X.env).map (·.2) = [assign tg X.env] := by rfl) : PS X (.Assign [tg] e pos) (zHw te g) := by
 intro pins s σ H D I h;refine wpAny_Assign_stores (thn (he pins s σ H _ I h) fun v s1 ⟨x, H1, I1, r1, q1⟩ => ?_) hs hw;rw [h1];exact thn (hg pins s1 σ H1 x v _ I1 r1 q1) fun _ s2 q => q
theorem zU {i : Nat} {x : Str} {e : Expr} {te : TE} {pos' : Pos} (hN : X.N.Nodup) (hi : X.N[i]? = some x) (hx : Loc X.env.scope x) (he : PE X e te) (hs : swapsWith e (some (.Name x pos')) pos.line X.env = pure false := by rfl) (hf : X.fn x = true \/ X.env.scope.names.lookup x = some .local := by first | exact .inl rfl | exact .inr rfl | assumption) :
  PS X (.Assign [.Name x pos'] e pos) (zHw te (xH i)) := by
 intro pins s σ H D I h;refine wpAny_Assign_Name (thn (he pins s σ H _ I h) fun v s1 ⟨y, H1, I1, r1, q1⟩ => ?_) hs;exact zei I1 hN hi hx r1 (fun s2 I2 => ⟨_, H1, I2, q1⟩) hf
end
structure It where
 go : Nat -> Hp -> Prop
 yld : Nat -> Hp -> V -> Hp -> Prop
 stop : Nat -> Hp -> Prop
def zbi (X : Cx) (pins : List (Addr × Obj)) (H : Hp) (b : Addr) : Prop :=
 H b = none /\ b ≠ X.env.locals /\ b ∉ X.fs /\ (b ∈ X.ex \/ X.s₀.heap.objs.size <= b) /\ (∀ x c, X.env.cells.lookup x = some c -> c ≠ b) /\ ∀ p ∈ X.pn ++ pins, p.1 ≠ b
theorem Inv.fpOk {X : Cx} {pins : List (Addr × Obj)} {σ : St} {H H' : Hp} {s : Shared} {b : Addr} (I : Inv X pins σ H s) (hb : s.heap.objs.size <= b) (hn : H' b = none) : zbi X pins H' b := by
 refine ⟨hn, Wx (Q2 I.lt hb), I.nofs hb, .inr (Qc I.sz hb), fun x c e z => ?_, fun p hp z => ?_⟩
 ·obtain ⟨v, q⟩ := I.cell x c e;exact absurd (Q2 q.lt (by rw [z]; exact hb)) (Js _)
 ·exact absurd (Q2 (Qw (I.pin p hp).1) (by rw [z]; exact hb)) (Js _)
structure znc (P : Program) (w : World) (K : PySem.W.Frag) (tg : Expr) (J : It) (fp : List Addr) (it : Addr) (tn : Nat -> Heap -> Prop) : Prop where
 mem : it ∈ fp
 obj : ∀ i h, tn i h -> ∀ b ∈ fp, ∃ o, h.get? b = some o /\ ∀ v, o.data ≠ .cell v
 keep : ∀ i h h', tn i h -> (∀ b ∈ fp, ∀ o, h.get? b = some o -> h'.get? b = some o) -> tn i h'
 item : ∀ (X : Cx), X.prog = P -> X.w = w -> X.K = K -> X.calm = true -> ∀ (i : Nat) (pins : List (Addr × Obj)) (s : Shared) (σ : St) (H : Hp) (E : Value -> Shared -> Prop), Inv X pins σ H s -> (∀ b ∈ fp, zbi X pins H b) -> tn i s.heap -> J.go i H ->
  wpAny (model P w) X.A (pyNext (.ref it)) (fun r s1 => ∃ u, r = some u /\
   wpAny (model P w) X.A (letOwnedTupleGo tg (.ref it) u) (fun _ s2 => ∃ x H', Inv X pins σ H' s2 /\ RelV x u /\ J.yld i H x H' /\ tn (i + 1) s2.heap /\ ∀ b ∈ fp, H' b = none) E s1) E s
 done : ∀ (X : Cx), X.prog = P -> X.w = w -> X.K = K -> X.calm = true -> ∀ (i : Nat) (pins : List (Addr × Obj)) (s : Shared) (σ : St) (H : Hp) (E : Value -> Shared -> Prop), Inv X pins σ H s -> (∀ b ∈ fp, zbi X pins H b) -> tn i s.heap -> J.stop i H ->
  wpAny (model P w) X.A (pyNext (.ref it)) (fun r s1 => r = none /\ Inv X pins σ H s1) E s
 self : ∀ (A : Around) (i : Nat) (s : Shared) (Q : Value -> Shared -> Prop) (E : Value -> Shared -> Prop), tn i s.heap -> Q (.ref it) s -> wpAny (model P w) A (pyIter (.ref it)) Q E s
abbrev TI := St -> Hp -> (It -> Hp -> Prop) -> Prop
def PIE (X : Cx) (pins : List (Addr × Obj)) (σ : St) (tg : Expr) (R : It -> Hp -> Prop) (itv : Value) (s2 : Shared) : Prop :=
 ∃ (it : Addr) (fp : List Addr) (tn : Nat -> Heap -> Prop) (J : It) (H' : Hp), itv = .ref it /\ Inv X pins σ H' s2 /\ znc X.prog X.w X.K tg J fp it tn /\ tn 0 s2.heap /\ (∀ b ∈ fp, zbi X pins H' b) /\ R J H'
def PI (X : Cx) (tg iter : Expr) (wi : TI) : Prop :=
 ∀ (pins : List (Addr × Obj)) (s : Shared) (σ : St) (H : Hp) (R : It -> Hp -> Prop), Inv X pins σ H s -> wi σ H R ->
  wpAny (model X.prog X.w) X.A (eval iter X.env) (fun v s1 => wpAny (model X.prog X.w) X.A (pyIter v) (PIE X pins σ tg R) X.xe s1) X.xe s
theorem zsf {M : Model} {A : Around} {E : Value -> Shared -> Prop} {s : Shared} {tg : Expr} {it : Addr} {u : Value} {o : Obj} {n : String} {vs : Array Value} {Q : Unit -> Shared -> Prop} (ho : s.heap.get? it = some o) (hc : o.cls = .type n) (hd : o.data = .fields vs)
  (hn : ["enumerate", "zip", "dict_itemiterator", "dict_reverseitemiterator", "odict_iterator", "itertools.zip_longest", "itertools.pairwise"].contains n = false) (hQ : Q () s) : wpAny M A (letOwnedTupleGo tg (.ref it) u) Q E s := by
 unfold letOwnedTupleGo;cases tg <;> first
  | exact Qr hQ
  | (cases u <;> first
    | exact Qr hQ
    | (refine Qq (wpAny_load ho ?_)
       rw [hc, hd];show wpAny M A (if (["enumerate", "zip", "dict_itemiterator", "dict_reverseitemiterator", "odict_iterator", "itertools.zip_longest", "itertools.pairwise"].contains n && vs[0]? == some (rawInt _)) = true then _ else _) Q E s;rw [if_neg (by intro h; rw [hn, Bool.false_and] at h; cases h)];exact Qr hQ))
def Itl (K : PySem.W.Frag) (a : Addr) : It :=
 ⟨fun i H => ∃ xs x, SqL K H a xs /\ xs[i]? = some x, fun i H x H' => H' = H /\ ∀ xs, SqL K H a xs -> xs[i]? = some x, fun i H => ∃ xs, SqL K H a xs /\ xs.length <= i⟩
def Itt (K : PySem.W.Frag) (a : Addr) : It :=
 ⟨fun i H => ∃ xs x, SqT K H a xs /\ xs[i]? = some x, fun i H x H' => H' = H /\ ∀ xs, SqT K H a xs -> xs[i]? = some x, fun i H => ∃ xs, SqT K H a xs /\ xs.length <= i⟩
def Itr (lo : Int) (n : Nat) : It := ⟨fun i _ => i < n, fun i H x H' => H' = H /\ x = .int (lo + i), fun i _ => n <= i⟩
theorem zpq {P : Program} {w : World} {K : PySem.W.Frag} {tg : Expr} (a it : Addr) : znc P w K tg (Itl K a) [it] it (fun i h => h.IsListIter it a i) where
 mem := by simp
 obj := fun i h st b hb => by
  have e : b = it := by simpa using hb
  subst e;obtain ⟨o, e, c, d⟩ := st;exact ⟨o, e, fun v z => by rw [d] at z; cases z⟩
 keep := fun i h h' st k => st.at fun o e => k it (by simp) o e
 item := by
  intro X hP hw hK hc i pins s σ H E I hf st hg;subst hP hw hK;obtain ⟨xs, x, hq, hx⟩ := hg;obtain ⟨its, rv, p, hz⟩ := I.list hq;obtain ⟨u, hu, ru⟩ := rv.get hx;obtain ⟨f0, f1, f2, f3, f4, f5⟩ := hf it (by simp);refine wpAny_pyNext_list_item st p.isList (x := u) (by simpa using hu) fun h' st' sb => ?_;have I1 : Inv X pins σ H { s with heap := h' } := I.turned (t' := s.toks) (fun b o hb e => (sb.2 b hb).trans e) f0 f1 f3 f4 f5;obtain ⟨o, e, c, d⟩ := id st';exact ⟨u, rfl, zsf (s := { s with heap := h' }) e c d (by decide) ⟨x, H, I1, ru, ⟨rfl, fun ys hy => by rw [I.list_inj hy hq]; exact hx⟩, st', fun b hb => (hf b hb).1⟩⟩
 done := by
  intro X hP hw hK hc i pins s σ H E I hf st hg;subst hP hw hK;obtain ⟨xs, hq, hx⟩ := hg;obtain ⟨its, rv, p, hz⟩ := I.list hq;obtain ⟨f0, f1, f2, f3, f4, f5⟩ := hf it (by simp);have hl := rv.length;exact wpAny_pyNext_list_end (I.ok.hd hc) st p.isList (by simp; lia) fun h' eb => ⟨rfl, I.turned (t' := s.toks) (fun b o hb e => eb b o hb e) f0 f1 f3 f4 f5⟩
 self := fun _ _ _ _ _ st h => wpAny_pyIter_listiter st h
theorem zlq {P : Program} {w : World} {K : PySem.W.Frag} {tg : Expr} (a it : Addr) : znc P w K tg (Itt K a) [it] it (fun i h => h.IsTupleIter it a i) where
 mem := by simp
 obj := fun i h st b hb => by
  have e : b = it := by simpa using hb
  subst e;obtain ⟨o, e, c, d⟩ := st;exact ⟨o, e, fun v z => by rw [d] at z; cases z⟩
 keep := fun i h h' st k => st.at fun o e => k it (by simp) o e
 item := by
  intro X hP hw hK hc i pins s σ H E I hf st hg;subst hP hw hK;obtain ⟨xs, x, hq, hx⟩ := hg;obtain ⟨its, rv, p, hz⟩ := I.tuple hq;obtain ⟨u, hu, ru⟩ := rv.get hx;obtain ⟨f0, f1, f2, f3, f4, f5⟩ := hf it (by simp);refine wpAny_pyNext_tuple_item st (show s.heap.IsTuple a its.toArray from p) (x := u) (by simpa using hu) fun h' st' sb => ?_;have I1 : Inv X pins σ H { s with heap := h' } := I.turned (t' := s.toks) (fun b o hb e => (sb.2 b hb).trans e) f0 f1 f3 f4 f5;obtain ⟨o, e, c, d⟩ := id st';exact ⟨u, rfl, zsf (s := { s with heap := h' }) e c d (by decide) ⟨x, H, I1, ru, ⟨rfl, fun ys hy => by rw [I.tuple_inj hy hq]; exact hx⟩, st', fun b hb => (hf b hb).1⟩⟩
 done := by
  intro X hP hw hK hc i pins s σ H E I hf st hg;subst hP hw hK;obtain ⟨xs, hq, hx⟩ := hg;obtain ⟨its, rv, p, hz⟩ := I.tuple hq;obtain ⟨f0, f1, f2, f3, f4, f5⟩ := hf it (by simp);have hl := rv.length;exact wpAny_pyNext_tuple_end (I.ok.hd hc) st (show s.heap.IsTuple a its.toArray from p) (by simp; lia) fun h' eb => ⟨rfl, I.turned (t' := s.toks) (fun b o hb e => eb b o hb e) f0 f1 f3 f4 f5⟩
 self := fun _ _ _ _ _ st h => wpAny_pyIter_tupleiter st h
theorem zlr {P : Program} {w : World} {K : PySem.W.Frag} {tg : Expr} (it : Addr) (lo : Int) (n : Nat) : znc P w K tg (Itr lo n) [it] it (fun i h => IsRangeIter h it (lo + (i : Nat) * 1) ((n : Int) - (i : Nat)) 1) where
 mem := by simp
 obj := fun i h st b hb => by
  have e : b = it := by simpa using hb
  subst e;exact ⟨_, st, fun v z => by
   have z' : Data.fields _ = Data.cell v := z;cases z'⟩
 keep := fun i h h' st k => k it (by simp) _ st
 item := by
  intro X hP hw hK hc i pins s σ H E I hf st hg;subst hP hw hK;obtain ⟨f0, f1, f2, f3, f4, f5⟩ := hf it (by simp);have W := Walks.range (prog := X.prog) (w := X.w) (I.ok.hd hc) it lo 1 n;refine W.item i s _ _ hg st fun v h' tk hv st' kk => ?_;obtain ⟨t, rfl⟩ := hv;have I1 : Inv X pins σ H { s with heap := h', toks := tk } := I.turned (fun b o hb e => kk b o (by simpa using hb) e) f0 f1 f3 f4 f5;refine ⟨_, rfl, zsf (s := { s with heap := h', toks := tk }) (n := "range_iterator") st' rfl rfl (by decide) ⟨.int (lo + i), H, I1, ⟨t, ?_⟩, ⟨rfl, rfl⟩, st', fun b hb => (hf b hb).1⟩⟩;rw [Int.mul_one]
 done := by
  intro X hP hw hK hc i pins s σ H E I hf st hg;subst hP hw hK;obtain ⟨f0, f1, f2, f3, f4, f5⟩ := hf it (by simp);exact wpAny_pyNext_range_end (I.ok.hd hc) st (by have : n <= i := hg; lia) fun h' eb => ⟨rfl, I.turned (t' := s.toks) (fun b o hb e => eb b o hb e) f0 f1 f3 f4 f5⟩
 self := fun _ _ _ _ _ st h => wpAny_pyIter_rangeiter st h
section
variable {X : Cx} {tg : Expr}
def zHg (K : PySem.W.Frag) (tl : TE) : TI := fun σ H R => tl σ H fun x H1 => ∃ a, x = .ref a /\ (∃ xs, SqL K H1 a xs) /\ R (Itl K a) H1
def zJb (K : PySem.W.Frag) (tl : TE) : TI := fun σ H R => tl σ H fun x H1 => ∃ a, x = .ref a /\ (∃ xs, SqT K H1 a xs) /\ R (Itt K a) H1
theorem zyv {l : Expr} {tl : TE} (hl : PE X l tl) : PI X tg l (zHg X.K tl) := by
 intro pins s σ H R I h;refine thn (hl pins s σ H _ I h) fun v s1 ⟨x, H1, I1, r1, q1⟩ => ?_;obtain ⟨a, e, ⟨xs, hq⟩, q⟩ := q1;subst e;cases r1
 obtain ⟨its, rv, p, hz⟩ := I1.list hq;refine wpAny_pyIter_list p.isList ?_;refine ⟨s1.heap.objs.size, [s1.heap.objs.size], _, _, H1, rfl, I1.kept (t' := s1.toks) fun b o e => Qz _ e, zpq a _, ⟨_, Qh _ rfl, rfl, rfl⟩, fun b hb => ?_, q⟩;have e : b = s1.heap.objs.size := by simpa using hb
 subst e;exact I1.fpOk (Qx _) (I1.hok.fresh (Qx _))
theorem zDm {l : Expr} {tl : TE} (hl : PE X l tl) : PI X tg l (zJb X.K tl) := by
 intro pins s σ H R I h;refine thn (hl pins s σ H _ I h) fun v s1 ⟨x, H1, I1, r1, q1⟩ => ?_;obtain ⟨a, e, ⟨xs, hq⟩, q⟩ := q1;subst e;cases r1
 obtain ⟨its, rv, p, hz⟩ := I1.tuple hq;refine wpAny_pyIter_tuple (show s1.heap.IsTuple a its.toArray from p) ?_;refine ⟨s1.heap.objs.size, [s1.heap.objs.size], _, _, H1, rfl, I1.kept (t' := s1.toks) fun b o e => Qz _ e, zlq a _, ⟨_, Qh _ rfl, rfl, rfl⟩, fun b hb => ?_, q⟩;have e : b = s1.heap.objs.size := by simpa using hb
 subst e;exact I1.fpOk (Qx _) (I1.hok.fresh (Qx _))
theorem zkl {pins : List (Addr × Obj)} {σ : St} {H : Hp} {s : Shared} {R : It -> Hp -> Prop} {E : Value -> Shared -> Prop} {lo hi : Int} {t u v : Tok} {tk : Nat} (I : Inv X pins σ H s) (h1 : -(2 ^ 62) <= lo) (h2 : lo < 2 ^ 62) (h3 : -(2 ^ 62) <= hi) (h4 : hi < 2 ^ 62)
  (q : R (Itr lo (hi - lo).toNat) H) : wpAny (model X.prog X.w) X.A (pyIter (.ref s.heap.objs.size)) (PIE X pins σ tg R) E { s with heap := s.heap.push { cls := .type "range", data := .fields #[.int lo t, .int hi u, .int 1 v] }, toks := tk } := by
 refine wpAny_pyIter_range (IsRange.new ..) (small_one h1 h2 h3 h4) ?_;have I1 : Inv X pins σ H { s with heap := s.heap.push { cls := .type "range", data := .fields #[.int lo t, .int hi u, .int 1 v] }, toks := tk } := I.kept fun b o e => Qz _ e;refine ⟨(s.heap.push { cls := .type "range", data := .fields #[.int lo t, .int hi u, .int 1 v] }).objs.size, [(s.heap.push { cls := .type "range", data := .fields #[.int lo t, .int hi u, .int 1 v] }).objs.size], _, _, H, rfl,
  I1.kept (t' := tk) fun b o e => Qz _ e, zlr _ lo (hi - lo).toNat, ?_, fun b hb => ?_, q⟩
 ·have e1 : lo + ((0 : Nat) : Int) * 1 = lo := by simp
  have e2 : (((hi - lo).toNat : Nat) : Int) - ((0 : Nat) : Int) = Builtin.Range.rangeSize lo hi 1 := by rw [rangeSize_one]; split <;> lia
  show IsRangeIter _ _ (lo + ((0 : Nat) : Int) * 1) ((((hi - lo).toNat : Nat) : Int) - ((0 : Nat) : Int)) 1;rw [e1, e2];exact Qh _ rfl
 ·have e : b = (s.heap.push { cls := .type "range", data := .fields #[.int lo t, .int hi u, .int 1 v] }).objs.size := by simpa using hb
  subst e;exact I1.fpOk (Qx _) (I1.hok.fresh (Qx _))
def zHf (ta : TA) : TI := fun σ H R => ta σ H fun vs H1 => ∃ j : Int, vs = [.int j] /\ -(2 ^ 62) <= j /\ j < 2 ^ 62 /\ R (Itr 0 j.toNat) H1
def zHe (ta : TA) : TI := fun σ H R => ta σ H fun vs H1 => ∃ i j : Int, vs = [.int i, .int j] /\ (-(2 ^ 62) <= i /\ i < 2 ^ 62 /\ -(2 ^ 62) <= j /\ j < 2 ^ 62) /\ R (Itr i (j - i).toNat) H1
theorem qC {a : Expr} {ta : TA} {p pos : Pos} (hg : Gl X "range") (hm : X.mg "range" = none) (ha : PA X [a] ta) (hs : starEach [a] X.env = [(false, eval a X.env)] := by rfl) : PI X tg (.Call (.Name "range" p) [a] [] pos) (zHf ta) := by
 intro pins s σ H R I h;refine Call_ (zaf I hg hm boot_range (PyProof.Rows.callWith_type1 (thn (ha pos pins s σ H _ I h) fun us s1 ⟨vs, H1, I1, r1, q1⟩ => ?_) hs rfl));obtain ⟨j, e, q1, q2, q⟩ := q1;subst e;cases r1 with
 | cons r rr =>
  cases rr
  obtain ⟨t, rfl⟩ := r;exact call_range_1 (zkl I1 (by lia) (by lia) q1 q2 (by simpa using q))
theorem zgc {a b : Expr} {ta : TA} {p pos : Pos} (hg : Gl X "range") (hm : X.mg "range" = none) (ha : PA X [a, b] ta) (hs : starEach [a, b] X.env = [(false, eval a X.env), (false, eval b X.env)] := by rfl) (hs2 : starEach [b] X.env = [(false, eval b X.env)] := by rfl) :
  PI X tg (.Call (.Name "range" p) [a, b] [] pos) (zHe ta) := by
 intro pins s σ H R I h;refine Call_ (zaf I hg hm boot_range (PyProof.Rows.callWith_type1 (thn (ha pos pins s σ H _ I h) fun us s1 ⟨vs, H1, I1, r1, q1⟩ => ?_) (by rw [hs, hs2]) (by rw [hs2]; rfl)));obtain ⟨i, j, e, ⟨q1, q2, q3, q4⟩, q⟩ := q1;subst e;cases r1 with
 | cons r rr =>
  cases rr with
  | cons r' rr =>
   cases rr
   obtain ⟨t, rfl⟩ := r;obtain ⟨t', rfl⟩ := r';exact call_range_2 (zkl I1 q1 q2 q3 q4 q)
def zIp (wi : TI) (g : TG) (tb : TS) : TS := fun D σ H => wi σ H fun J H1 => ∃ W : Nat -> Nat -> St -> Hp -> Prop, (∃ m, W 0 m σ H1) /\ ∀ i m σ H, W i m σ H ->
 (J.stop i H /\ D.nx σ H) \/ (J.go i H /\ ∃ N : St -> Hp -> Prop, (∀ σ' H', N σ' H' -> ∃ m', m' < m /\ W (i + 1) m' σ' H') /\ ∀ x H', J.yld i H x H' -> g x σ H' fun σ2 H2 => tb { D with nx := N, ct := N, bk := D.nx } σ2 H2)
def zcs (fp : List Addr) (h : Heap) : List (Addr × Obj) := fp.filterMap fun b => (h.get? b).map fun o => (b, o)
theorem vX {fp : List Addr} {h : Heap} {b : Addr} {o : Obj} (hb : b ∈ fp) (e : h.get? b = some o) : (b, o) ∈ zcs fp h := List.mem_filterMap.mpr ⟨b, hb, by rw [e]; rfl⟩
theorem zqf {fp : List Addr} {h : Heap} {p : Addr × Obj} (hp : p ∈ zcs fp h) : p.1 ∈ fp /\ h.get? p.1 = some p.2 := by
 obtain ⟨b, hb, e⟩ := List.mem_filterMap.mp hp;cases q : h.get? b with
 | none => rw [q] at e; cases e
 | some o =>
  rw [q] at e;have e' : (b, o) = p := Option.some.inj e;subst e';exact ⟨hb, q⟩
theorem Inv.pinned {pins : List (Addr × Obj)} {σ : St} {H : Hp} {s : Shared} {fp : List Addr} (I : Inv X pins σ H s) (hf : ∀ b ∈ fp, zbi X pins H b) (ho : ∀ b ∈ fp, ∃ o, s.heap.get? b = some o /\ ∀ v, o.data ≠ .cell v) : Inv X (pins ++ zcs fp s.heap) σ H s :=
 I.pins_of fun p hp => (Q5.mp hp).elim (fun z => I.pin p (Qf _ z)) fun z => by
  obtain ⟨hb, e⟩ := zqf z;obtain ⟨f0, f1, f2, _⟩ := hf p.1 hb;obtain ⟨o, e', d⟩ := ho p.1 hb;rw [e] at e'; cases e';exact ⟨e, f0, f1, f2, d⟩
theorem Inv.unpinned {pins pl : List (Addr × Obj)} {σ : St} {H : Hp} {s : Shared} (I : Inv X (pins ++ pl) σ H s) : Inv X pins σ H s := I.pins_of fun p hp => I.pin p (Qf _ (Wk _ hp))
theorem zaa {iter : Expr} {body : List Stmt} {wi : TI} {g : TG} {tb : TS} {pos : Pos} (hp : PassesOwn (model X.prog X.w) X.A X.env X.xe) (hc : X.calm = true) (hi : PI X tg iter wi) (hg : PG X tg g) (hb : PSs X body tb)
  (hs : ∀ x, foldedSetIterable iter X.env x = pure x := by intro _; rfl) : PS X (.For tg iter body [] pos) (zIp wi g tb) := by
 intro pins s σ H D I h;refine wpAny_For (thn (hi pins s σ H _ I h) fun v s1 h1 => thn h1 fun itv s2 h2 => ?_) hs;obtain ⟨it, fp, tn, J, H2, e, I2, T, st2, f2, W, ⟨m0, w0⟩, turn⟩ := h2;subst e;have stat : ∀ {H' : Hp}, (∀ b ∈ fp, H' b = none) -> ∀ b ∈ fp, zbi X pins H' b := fun hn b hb => ⟨hn b hb, (f2 b hb).2⟩;refine codeAny_forLoop_any (fun n s' => ∃ i σ' H', Inv X pins σ' H' s' /\ tn i s'.heap /\ (∀ b ∈ fp, H' b = none) /\ W i n σ' H') ?_ m0 ⟨0, σ, H2, I2, st2, fun b hb => (f2 b hb).1, w0⟩;rintro n s3 ⟨i, σ3, H3, I3, st3, fr3, w3⟩;rcases turn i n σ3 H3 w3 with ⟨stop, qn⟩ | ⟨go, N, hN, step⟩
 ·refine wpAny_passesOwn hp (thn (T.done X rfl rfl rfl hc i pins s3 σ3 H3 X.xe I3 (stat fr3) st3 stop) fun r s4 ⟨hr, I4⟩ => ?_);subst hr;exact wpAny_execs_nil ⟨σ3, H3, I4, qn⟩
 ·refine wpAny_passesOwn hp (thn (T.item X rfl rfl rfl hc i pins s3 σ3 H3 X.xe I3 (stat fr3) st3 go) fun r s4 ⟨u, hr, h4⟩ => ?_);subst hr;refine wpAny_passesOwn hp (thn h4 fun _ s5 ⟨x, H5, I5, r5, y5, st5, fr5⟩ => ?_);have I5' := I5.pinned (stat fr5) (T.obj _ _ st5);refine wpAny_passesOwn hp (thn (hg _ s5 σ3 H5 x u _ I5' r5 (step x H5 y5)) fun _ s6 ⟨σ6, H6, I6, q6⟩ => ?_);refine wpAny_passesOwn hp (thn (hb _ s6 σ6 H6 _ I6 q6) fun f s7 q7 => ?_);have again : ∀ {σ7 : St} {H7 : Hp}, Inv X (pins ++ zcs fp s5.heap) σ7 H7 s7 -> N σ7 H7 -> ∃ m, m < n /\ ∃ i σ' H', Inv X pins σ' H' s7 /\ tn i s7.heap /\ (∀ b ∈ fp, H' b = none) /\ W i m σ' H' := fun {σ7 H7} I7 n7 => by
   obtain ⟨m', hm, w7⟩ := hN σ7 H7 n7;refine ⟨m', hm, i + 1, σ7, H7, I7.unpinned, T.keep _ _ _ st5 fun b hb o e => (I7.pin (b, o) (Qf _ (Qf _ (vX hb e)))).1, fun b hb => ?_, w7⟩;obtain ⟨o, e, d⟩ := T.obj _ _ st5 b hb;exact (I7.pin (b, o) (Qf _ (Qf _ (vX hb e)))).2.1
  cases f with
  | next => obtain ⟨σ7, H7, I7, n7⟩ := q7; exact again I7 n7
  | cont => obtain ⟨σ7, H7, I7, n7⟩ := q7; exact again I7 n7
  | brk => obtain ⟨σ7, H7, I7, q7⟩ := q7; exact ⟨σ7, H7, I7.unpinned, q7⟩
  | ret v => obtain ⟨x7, σ7, H7, I7, r7, q7⟩ := q7; exact ⟨x7, σ7, H7, I7.unpinned, r7, q7⟩
end
theorem zuq {K : PySem.W.Frag} {a : Addr} {xs : List V} {g : TG} {tb : TS} {D : gP} {σ : St} {H : Hp} (Pv : Nat -> St -> Hp -> Prop) (h0 : Pv 0 σ H) (hl : ∀ i σ H, i <= xs.length -> Pv i σ H -> SqL K H a xs)
  (hs : ∀ i x σ H, xs[i]? = some x -> Pv i σ H -> g x σ H fun σ2 H2 => tb { D with nx := Pv (i + 1), ct := Pv (i + 1), bk := D.nx } σ2 H2) (hd : ∀ σ H, Pv xs.length σ H -> D.nx σ H) :
  ∃ W : Nat -> Nat -> St -> Hp -> Prop, (∃ m, W 0 m σ H) /\ ∀ i m σ H, W i m σ H ->
   ((Itl K a).stop i H /\ D.nx σ H) \/ ((Itl K a).go i H /\ ∃ N : St -> Hp -> Prop, (∀ σ' H', N σ' H' -> ∃ m', m' < m /\ W (i + 1) m' σ' H') /\ ∀ x H', (Itl K a).yld i H x H' -> g x σ H' fun σ2 H2 => tb { D with nx := N, ct := N, bk := D.nx } σ2 H2) := by
 refine ⟨fun i m σ H => m = xs.length - i /\ i <= xs.length /\ Pv i σ H, ⟨xs.length, by simp, Jw _, h0⟩, ?_⟩;rintro i m σ H ⟨rfl, hi, p⟩;have q := hl i σ H hi p;by_cases hlt : i < xs.length
 ·refine .inr ⟨⟨xs, xs[i], q, by simp [hlt]⟩, Pv (i + 1), fun σ' H' p' => ⟨xs.length - (i + 1), by lia, rfl, hlt, p'⟩, fun x H' y => ?_⟩;obtain ⟨e, y⟩ := y;subst e;exact hs i x σ _ (y xs q) p
 ·have e : i = xs.length := by lia
  subst e;exact .inl ⟨⟨xs, q, Qx _⟩, hd σ H p⟩
theorem zzz {K : PySem.W.Frag} {a : Addr} {xs : List V} {g : TG} {tb : TS} {D : gP} {σ : St} {H : Hp} (Pv : Nat -> St -> Hp -> Prop) (h0 : Pv 0 σ H) (hl : ∀ i σ H, i <= xs.length -> Pv i σ H -> SqT K H a xs)
  (hs : ∀ i x σ H, xs[i]? = some x -> Pv i σ H -> g x σ H fun σ2 H2 => tb { D with nx := Pv (i + 1), ct := Pv (i + 1), bk := D.nx } σ2 H2) (hd : ∀ σ H, Pv xs.length σ H -> D.nx σ H) :
  ∃ W : Nat -> Nat -> St -> Hp -> Prop, (∃ m, W 0 m σ H) /\ ∀ i m σ H, W i m σ H ->
   ((Itt K a).stop i H /\ D.nx σ H) \/ ((Itt K a).go i H /\ ∃ N : St -> Hp -> Prop, (∀ σ' H', N σ' H' -> ∃ m', m' < m /\ W (i + 1) m' σ' H') /\ ∀ x H', (Itt K a).yld i H x H' -> g x σ H' fun σ2 H2 => tb { D with nx := N, ct := N, bk := D.nx } σ2 H2) := by
 refine ⟨fun i m σ H => m = xs.length - i /\ i <= xs.length /\ Pv i σ H, ⟨xs.length, by simp, Jw _, h0⟩, ?_⟩;rintro i m σ H ⟨rfl, hi, p⟩;have q := hl i σ H hi p;by_cases hlt : i < xs.length
 ·refine .inr ⟨⟨xs, xs[i], q, by simp [hlt]⟩, Pv (i + 1), fun σ' H' p' => ⟨xs.length - (i + 1), by lia, rfl, hlt, p'⟩, fun x H' y => ?_⟩;obtain ⟨e, y⟩ := y;subst e;exact hs i x σ _ (y xs q) p
 ·have e : i = xs.length := by lia
  subst e;exact .inl ⟨⟨xs, q, Qx _⟩, hd σ H p⟩
theorem zbt {lo : Int} {n : Nat} {g : TG} {tb : TS} {D : gP} {σ : St} {H : Hp} (Pv : Nat -> St -> Hp -> Prop) (h0 : Pv 0 σ H)
  (hs : ∀ i σ H, i < n -> Pv i σ H -> g (.int (lo + i)) σ H fun σ2 H2 => tb { D with nx := Pv (i + 1), ct := Pv (i + 1), bk := D.nx } σ2 H2) (hd : ∀ σ H, Pv n σ H -> D.nx σ H) :
  ∃ W : Nat -> Nat -> St -> Hp -> Prop, (∃ m, W 0 m σ H) /\ ∀ i m σ H, W i m σ H ->
   ((Itr lo n).stop i H /\ D.nx σ H) \/ ((Itr lo n).go i H /\ ∃ N : St -> Hp -> Prop, (∀ σ' H', N σ' H' -> ∃ m', m' < m /\ W (i + 1) m' σ' H') /\ ∀ x H', (Itr lo n).yld i H x H' -> g x σ H' fun σ2 H2 => tb { D with nx := N, ct := N, bk := D.nx } σ2 H2) := by
 refine ⟨fun i m σ H => m = n - i /\ i <= n /\ Pv i σ H, ⟨n, by simp, Jw _, h0⟩, ?_⟩;rintro i m σ H ⟨rfl, hi, p⟩;by_cases hlt : i < n
 ·refine .inr ⟨hlt, Pv (i + 1), fun σ' H' p' => ⟨n - (i + 1), by lia, rfl, hlt, p'⟩, fun x H' y => ?_⟩;obtain ⟨e, y⟩ := y;subst e y;exact hs i σ _ hlt p
 ·have e : i = n := by lia
  subst e;exact .inl ⟨Qx _, hd σ H p⟩
abbrev R2 := V -> V -> Hp -> VK -> Prop
def OpR (X : Cx) (f : Value -> Value -> Sem Value) (r : R2) : Prop :=
 ∀ (pins : List (Addr × Obj)) (s : Shared) (σ : St) (H : Hp) (x y : V) (v u : Value) (Q : VK), Inv X pins σ H s -> RelV x v -> RelV y u -> r x y H Q ->
  wpAny (model X.prog X.w) X.A (f v u) (EP X pins σ Q) X.xe s
def vK (X : Cx) (f : Value) (r : List V -> Hp -> VK -> Prop) : Prop :=
 ∀ (pins : List (Addr × Obj)) (s : Shared) (σ : St) (H : Hp) (xs : List V) (us : List Value) (Q : VK), Inv X pins σ H s -> Vals xs us -> r xs H Q ->
  wpAny (model X.prog X.w) X.A (call f us) (EP X pins σ Q) X.xe s
def tOp (r : R2) (ta tb : TE) : TE := fun σ H Q => ta σ H fun x H1 => tb σ H1 fun y H2 => r x y H2 Q
def rI (C : Int -> Int -> Prop) (g : Int -> Int -> V) : R2 := fun x y H Q => ∃ i j, x = .int i /\ y = .int j /\ C i j /\ Q (g i j) H
def rI0 (g : Int -> Int -> V) : R2 := fun x y H Q => ∃ i j, x = .int i /\ y = .int j /\ Q (g i j) H
section
variable {X : Cx} {a b c : Expr} {ta tb tc : TE} {pos : Pos}
theorem zFq (ha : PE X a ta) (hb : PE X b tb) {pins : List (Addr × Obj)} {s : Shared} {σ : St} {H : Hp} {R : V -> V -> Hp -> Prop} (I : Inv X pins σ H s)
  (h : ta σ H fun x H1 => tb σ H1 fun y H2 => R x y H2) {Q : Value -> Shared -> Prop} {f : Value -> Value -> Sem Value}
  (hf : ∀ v u s2 x y H2, Inv X pins σ H2 s2 -> RelV x v -> RelV y u -> R x y H2 -> wpAny (model X.prog X.w) X.A (f v u) Q X.xe s2) :
  wpAny (model X.prog X.w) X.A (eval a X.env) (fun v s₁ => wpAny (model X.prog X.w) X.A (eval b X.env) (fun u s₂ => wpAny (model X.prog X.w) X.A (f v u) Q X.xe s₂) X.xe s₁) X.xe s := by
 refine thn (ha pins s σ H _ I h) fun v s1 ⟨x, H1, I1, r1, q1⟩ => ?_;refine thn (hb pins s1 σ H1 _ I1 q1) fun u s2 ⟨y, H2, I2, r2, q2⟩ => ?_;exact hf v u s2 x y H2 I2 r1 r2 q2
theorem zN {op : Operator} {r : R2} (ho : OpR X (binaryOp op) r) (ha : PE X a ta) (hb : PE X b tb) : PE X (.BinOp a op b pos) (tOp r ta tb) := by
 intro pins s σ H Q I h;exact wpAny_BinOp (zFq ha hb I h fun v u s2 x y H2 I2 rx ry q => ho pins s2 σ H2 x y v u Q I2 rx ry q)
theorem opI {f : Value -> Value -> Sem Value} {C : Int -> Int -> Prop} {g : Int -> Int -> Int}
  (rule : ∀ (i j : Int) (t u : Tok) (s : Shared) (Q : Value -> Shared -> Prop) (E : Value -> Shared -> Prop), C i j -> Q (.int (g i j) s.toks) { s with toks := s.toks + 1 } -> wpAny (model X.prog X.w) X.A (f (.int i t) (.int j u)) Q E s) :
  OpR X f (rI C fun i j => .int (g i j)) := by
 intro pins s σ H x y v u Q I rx ry h;obtain ⟨i, j, rfl, rfl, hc, q⟩ := h;obtain ⟨t, rfl⟩ := rx;obtain ⟨t', rfl⟩ := ry;exact rule i j t t' s _ _ hc ⟨.int (g i j), H, I.tok _, ⟨_, rfl⟩, q⟩
theorem zIc {f : Value -> Value -> Sem Value} {g : Int -> Int -> Int}
  (rule : ∀ (i j : Int) (t u : Tok) (s : Shared) (Q : Value -> Shared -> Prop) (E : Value -> Shared -> Prop), Q (.int (g i j) s.toks) { s with toks := s.toks + 1 } -> wpAny (model X.prog X.w) X.A (f (.int i t) (.int j u)) Q E s) :
  OpR X f (rI0 fun i j => .int (g i j)) := by
 intro pins s σ H x y v u Q I rx ry h;obtain ⟨i, j, rfl, rfl, q⟩ := h;obtain ⟨t, rfl⟩ := rx;obtain ⟨t', rfl⟩ := ry;exact rule i j t t' s _ _ ⟨.int (g i j), H, I.tok _, ⟨_, rfl⟩, q⟩
theorem zFm {f : Value -> Value -> Sem Value} {g : Int -> Int -> Bool}
  (rule : ∀ (i j : Int) (t u : Tok) (s : Shared) (Q : Value -> Shared -> Prop) (E : Value -> Shared -> Prop), Q (.bool (g i j)) s -> wpAny (model X.prog X.w) X.A (f (.int i t) (.int j u)) Q E s) :
  OpR X f (rI0 fun i j => .bl (g i j)) := by
 intro pins s σ H x y v u Q I rx ry h;obtain ⟨i, j, rfl, rfl, q⟩ := h;obtain ⟨t, rfl⟩ := rx;obtain ⟨t', rfl⟩ := ry;exact rule i j t t' s _ _ ⟨.bl (g i j), H, I, rfl, q⟩
def zJm (i j : Int) : Prop := 0 < j /\ j < 1073741824
def zJl (i j : Int) : Prop := 0 <= j /\ j <= 1000000 /\ i.natAbs < 2 ^ 64
def CMul (i j : Int) : Prop := (-(2 ^ 64) < i /\ i < 2 ^ 64) \/ (-(2 ^ 64) < j /\ j < 2 ^ 64)
theorem CMul.ok {i j : Int} (h : CMul i j) : IntMulOk i j := by
 rcases h with ⟨h1, h2⟩ | ⟨h1, h2⟩
 ·exact .of_left (intBits_le_64 h1 h2)
 ·exact .of_right (intBits_le_64 h1 h2)
theorem w8 : OpR X (binaryOp .Add) (rI0 fun i j => .int (i + j)) := zIc fun _ _ _ _ _ _ _ q => add_int q
theorem j5 : OpR X (binaryOp .Sub) (rI0 fun i j => .int (i - j)) := zIc fun _ _ _ _ _ _ _ q => sub_int q
theorem zwl : OpR X (binaryOp .Mult) (rI CMul fun i j => .int (i * j)) := opI fun _ _ _ _ _ _ _ hc q => mul_int q hc.ok
theorem qG : OpR X (binaryOp .FloorDiv) (rI zJm fun i j => .int (i / j)) := opI fun i j _ _ _ _ _ hc q => by
 have h1 : (0 : Int) < j := hc.1;have h2 : j < 1073741824 := hc.2;exact floordiv_int (by lia) (by rw [Int.fdiv_eq_ediv_of_nonneg i (by lia)]; exact q) (.inl (PyProof.noPylong_small (by lia)))
theorem w5 : OpR X (binaryOp .Mod) (rI (fun _ j => 0 < j) fun i j => .int (i % j)) := opI fun i j _ _ _ _ _ hc q => by
 have h1 : (0 : Int) < j := hc;exact mod_int' (by lia) (by rw [Int.fmod_eq_emod_of_nonneg i (by lia)]; exact q)
theorem znm : OpR X (binaryOp .Pow) (rI zJl fun i j => .int (i ^ j.toNat)) := opI fun _ _ _ _ _ _ _ hc q => pow_int_small hc.1 hc.2.1 hc.2.2 q
end
def zHy : V -> V -> Bool
 | .non, .non => true | .non, .int _ => true | .int _, .non => true | .non, .bl _ => true | .bl _, .non => true | .non, .str _ => true | .str _, .non => true
 | .int _, .int _ => true | .bl _, .bl _ => true | .str _, .str _ => true | .byt _, .byt _ => true
 | .int _, .str _ => true | .str _, .int _ => true | .bl _, .str _ => true | .str _, .bl _ => true
 | _, _ => false
def rEq : R2 := fun x y H Q => zHy x y = true /\ Q (.bl (decide (x = y))) H
def rNe : R2 := fun x y H Q => zHy x y = true /\ Q (.bl (!decide (x = y))) H
theorem zph {i j : Int} : decide (V.int i = V.int j) = (i == j) := by
 rw [Jd];simp
theorem zwy {i j : Bool} : decide (V.bl i = V.bl j) = (i == j) := by
 rw [Jd];simp
theorem dec_str {i j : Str} : decide (V.str i = V.str j) = (i == j) := by
 rw [Jd];simp
theorem zpi {i j : Array UInt8} : decide (V.byt i = V.byt j) = (i.toList == j.toList) := by
 rw [Jd];cases i
 cases j
 simp
section
variable {X : Cx} {a b c : Expr} {ta tb tc : TE} {pos : Pos}
theorem xB {pins : List (Addr × Obj)} {σ : St} {H : Hp} {s : Shared} {Q : VK} {k k' : Bool} (I : Inv X pins σ H s) (q : Q (.bl k) H) (e : k = k') : EP X pins σ Q (.bool k') s := by
 subst e;exact ⟨.bl k, H, I, rfl, q⟩
theorem wA : OpR X (compareOp .Eq) rEq := by
 intro pins s σ H x y v u Q I rx ry h;obtain ⟨hs, q⟩ := h;cases x with
 | non =>
  cases rx
  cases y with
  | non => cases ry; exact PySem.EqNone.eq_none_none (xB I q (by simp))
  | bl j => cases ry; exact PySem.EqNone.eq_none_bool (xB I q (by simp))
  | int j => obtain ⟨t', rfl⟩ := ry; exact PySem.EqNone.eq_none_int (xB I q (by simp))
  | str j => obtain ⟨t', rfl⟩ := ry; exact PySem.EqNone.eq_none_str (xB I q (by simp))
  | _ => exact absurd (show false = true from hs) Qs
 | bl i =>
  cases rx
  cases y with
  | non => cases ry; exact PySem.EqNone.eq_bool_none (xB I q (by simp))
  | bl j => cases ry; exact eq_bool (xB I q zwy)
  | str j => obtain ⟨t', rfl⟩ := ry; exact PySem.EqMixed.eq_bool_str (xB I q (by simp))
  | _ => exact absurd (show false = true from hs) Qs
 | int i =>
  obtain ⟨t, rfl⟩ := rx;cases y with
  | non => cases ry; exact PySem.EqNone.eq_int_none (xB I q (by simp))
  | int j => obtain ⟨t', rfl⟩ := ry; exact eq_int (xB I q zph)
  | str j => obtain ⟨t', rfl⟩ := ry; exact PySem.EqMixed.eq_int_str (xB I q (by simp))
  | _ => exact absurd (show false = true from hs) Qs
 | str i =>
  obtain ⟨t, rfl⟩ := rx;cases y with
  | non => cases ry; exact PySem.EqNone.eq_str_none (xB I q (by simp))
  | bl j => cases ry; exact PySem.EqMixed.eq_str_bool (xB I q (by simp))
  | int j => obtain ⟨t', rfl⟩ := ry; exact PySem.EqMixed.eq_str_int (xB I q (by simp))
  | str j => obtain ⟨t', rfl⟩ := ry; exact eq_str (xB I q dec_str)
  | _ => exact absurd (show false = true from hs) Qs
 | byt i =>
  obtain ⟨t, rfl⟩ := rx;cases y with
  | byt j => obtain ⟨t', rfl⟩ := ry; exact PySem.W.eq_bytes (xB I q zpi)
  | _ => exact absurd (show false = true from hs) Qs
 | _ => cases y <;> exact absurd (show false = true from hs) Qs
theorem j6 : OpR X (compareOp .NotEq) rNe := by
 intro pins s σ H x y v u Q I rx ry h;obtain ⟨hs, q⟩ := h;cases x with
 | non =>
  cases rx
  cases y with
  | non => cases ry; exact PySem.EqNone.ne_none_none (xB I q (by simp))
  | bl j => cases ry; exact PySem.EqNone.ne_none_bool (xB I q (by simp))
  | int j => obtain ⟨t', rfl⟩ := ry; exact PySem.EqNone.ne_none_int (xB I q (by simp))
  | str j => obtain ⟨t', rfl⟩ := ry; exact PySem.EqNone.ne_none_str (xB I q (by simp))
  | _ => exact absurd (show false = true from hs) Qs
 | bl i =>
  cases rx
  cases y with
  | non => cases ry; exact PySem.EqNone.ne_bool_none (xB I q (by simp))
  | bl j => cases ry; exact ne_bool (xB I q (congrArg not zwy))
  | str j => obtain ⟨t', rfl⟩ := ry; exact PySem.EqMixed.ne_bool_str (xB I q (by simp))
  | _ => exact absurd (show false = true from hs) Qs
 | int i =>
  obtain ⟨t, rfl⟩ := rx;cases y with
  | non => cases ry; exact PySem.EqNone.ne_int_none (xB I q (by simp))
  | int j => obtain ⟨t', rfl⟩ := ry; exact ne_int (xB I q (congrArg not zph))
  | str j => obtain ⟨t', rfl⟩ := ry; exact PySem.EqMixed.ne_int_str (xB I q (by simp))
  | _ => exact absurd (show false = true from hs) Qs
 | str i =>
  obtain ⟨t, rfl⟩ := rx;cases y with
  | non => cases ry; exact PySem.EqNone.ne_str_none (xB I q (by simp))
  | bl j => cases ry; exact PySem.EqMixed.ne_str_bool (xB I q (by simp))
  | int j => obtain ⟨t', rfl⟩ := ry; exact PySem.EqMixed.ne_str_int (xB I q (by simp))
  | str j => obtain ⟨t', rfl⟩ := ry; exact ne_str (xB I q (congrArg not dec_str))
  | _ => exact absurd (show false = true from hs) Qs
 | byt i =>
  obtain ⟨t, rfl⟩ := rx;cases y with
  | byt j => obtain ⟨t', rfl⟩ := ry; exact PySem.W.ne_bytes (xB I q (congrArg not zpi))
  | _ => exact absurd (show false = true from hs) Qs
 | _ => cases y <;> exact absurd (show false = true from hs) Qs
theorem zxh : OpR X (compareOp .Lt) (rI0 fun i j => .bl (decide (i < j))) := zFm fun _ _ _ _ _ _ _ q => lt_int q
theorem zds : OpR X (compareOp .LtE) (rI0 fun i j => .bl (decide (i <= j))) := zFm fun _ _ _ _ _ _ _ q => le_int q
theorem zxi : OpR X (compareOp .Gt) (rI0 fun i j => .bl (decide (j < i))) := zFm fun _ _ _ _ _ _ _ q => gt_int q
theorem zbp : OpR X (compareOp .In) (fun x y H Q => ∃ i j, x = .str i /\ y = .str j /\ Q (.bl (!(Builtin.Str.occurrences j i 0 j.length 1).isEmpty)) H) := by
 intro pins s σ H x y v u Q I rx ry h;obtain ⟨i, j, rfl, rfl, q⟩ := h;obtain ⟨t, rfl⟩ := rx;obtain ⟨t', rfl⟩ := ry;exact in_str (xB I q rfl)
theorem yA (b : Expr) {op : CmpOp} (h : op ≠ .In := by decide) (h2 : op ≠ .NotIn := by decide) : behindInMarks op b = false := by
 have e1 : (op == CmpOp.In) = false := by cases op <;> first | rfl | exact absurd rfl h
 have e2 : (op == CmpOp.NotIn) = false := by cases op <;> first | rfl | exact absurd rfl h2
 cases b <;> simp [behindInMarks, e1, e2]
theorem vS {op : CmpOp} {r : R2} (ho : OpR X (compareOp op) r) (ha : PE X a ta) (hb : PE X b tb) (hm : behindInMarks op b = false) : PE X (.Compare a [op] [b] pos) (tOp r ta tb) := by
 intro pins s σ H Q I h;exact wpAny_Compare1 (zFq ha hb I h fun v u s2 x y H2 I2 rx ry q => ho pins s2 σ H2 x y v u Q I2 rx ry q) hm
def zcg (t : TE) : TT := fun σ H Q => t σ H fun x H' => ∃ k, x = .bl k /\ Q k H'
theorem zP {op : CmpOp} {r : R2} (ho : OpR X (compareOp op) r) (ha : PE X a ta) (hb : PE X b tb) (hm : behindInMarks op b = false) : PT X (.Compare a [op] [b] pos) (zcg (tOp r ta tb)) := by
 intro pins s σ H Q I h;refine wpAny_isTrue_Compare1 (thn (ha pins s σ H _ I h) fun v s1 ⟨x, H1, I1, r1, q1⟩ => thn (hb pins s1 σ H1 _ I1 q1) fun u s2 ⟨y, H2, I2, r2, q2⟩ =>
  thn (ho pins s2 σ H2 x y v u _ I2 r1 r2 q2) fun c s3 ⟨z, H3, I3, r3, k, e, q3⟩ => ?_) hm
 subst e;cases r3
 exact wpAny_truthy_bool ⟨H3, I3, q3⟩
def zvv (r r' : R2) (ta tb tc : TE) : TE := fun σ H Q => ta σ H fun x H1 => tb σ H1 fun y H2 => r x y H2 fun z H3 => ∃ k, z = .bl k /\
 (if k = true then tc σ H3 fun w' H4 => r' y w' H4 Q else Q (.bl false) H3)
theorem zko {op op' : CmpOp} {r r' : R2} (ho : OpR X (compareOp op) r) (ho' : OpR X (compareOp op') r') (ha : PE X a ta) (hb : PE X b tb) (hc : PE X c tc)
  (hm : lastMarks [op, op'] [b, c] = false := by with_unfolding_all rfl) : PE X (.Compare a [op, op'] [b, c] pos) (zvv r r' ta tb tc) := by
 intro pins s σ H Q I h;refine Compare_chain (thn (ha pins s σ H _ I h) fun v s1 ⟨x, H1, I1, r1, q1⟩ => chain_link (thn (hb pins s1 σ H1 _ I1 q1) fun u s2 ⟨y, H2, I2, r2, q2⟩ =>
  thn (ho pins s2 σ H2 x y v u _ I2 r1 r2 q2) fun d s3 ⟨z, H3, I3, r3, k, e, q3⟩ => ?_)) hm
 subst e;cases r3
 refine wpAny_truthy_bool ?_;cases k with
 | false => exact ite_ff ⟨.bl false, H3, I3, rfl, q3⟩
 | true => exact ite_tt (chain_last (thn (hc pins s3 σ H3 _ I3 q3) fun w' s4 ⟨z', H4, I4, r4, q4⟩ => ho' pins s4 σ H4 y z' u w' Q I4 r2 r4 q4))
theorem ztr {op op' : CmpOp} {r r' : R2} (ho : OpR X (compareOp op) r) (ho' : OpR X (compareOp op') r') (ha : PE X a ta) (hb : PE X b tb) (hc : PE X c tc)
  (hm : lastMarks [op, op'] [b, c] = false := by with_unfolding_all rfl) : PT X (.Compare a [op, op'] [b, c] pos) (zcg (zvv r r' ta tb tc)) := by
 intro pins s σ H Q I h;refine isTrue_chain (thn (ha pins s σ H _ I h) fun v s1 ⟨x, H1, I1, r1, q1⟩ => test_link (thn (hb pins s1 σ H1 _ I1 q1) fun u s2 ⟨y, H2, I2, r2, q2⟩ =>
  thn (ho pins s2 σ H2 x y v u _ I2 r1 r2 q2) fun d s3 ⟨z, H3, I3, r3, k, e, q3⟩ => ?_)) hm
 subst e;cases r3
 refine wpAny_truthy_bool ?_;cases k with
 | false =>
  obtain ⟨k', e', q'⟩ := q3;cases e'
  exact ite_ff ⟨H3, I3, q'⟩
 | true =>
  refine ite_tt (test_last (thn (hc pins s3 σ H3 _ I3 q3) fun w' s4 ⟨z', H4, I4, r4, q4⟩ => thn (ho' pins s4 σ H4 y z' u w' _ I4 r2 r4 q4) fun d' s5 ⟨z2, H5, I5, r5, k2, e2, q5⟩ => ?_));subst e2;cases r5
  exact wpAny_truthy_bool ⟨H5, I5, q5⟩
theorem zcv : (sizeLine : Nat) < 2 ^ 63 := by rw [sizeLine_eq]; decide
theorem xA : OpR X (binaryOp .Add) (fun x y H Q => ∃ i j, x = .str i /\ y = .str j /\ i.length + j.length <= sizeLine /\ Q (.str (i ++ j)) H) := by
 intro pins s σ H x y v u Q I rx ry h;obtain ⟨i, j, rfl, rfl, hz, q⟩ := h;obtain ⟨t, rfl⟩ := rx;obtain ⟨t', rfl⟩ := ry;exact add_str (fun t' tk => ⟨.str (i ++ j), H, I.tok _, ⟨_, rfl⟩, q⟩) hz
theorem zrt {x : V} {us : List Value} (r : Vals [x] us) : ∃ u, us = [u] /\ RelV x u := by
 cases r with
 | cons r1 r2 => cases r2; exact ⟨_, rfl, r1⟩
theorem zBe {x y : V} {us : List Value} (r : Vals [x, y] us) : ∃ u w', us = [u, w'] /\ RelV x u /\ RelV y w' := by
 cases r with
 | cons r1 r2 =>
  cases r2 with
  | cons r3 r4 => cases r4; exact ⟨_, _, rfl, r1, r3⟩
theorem zgm (hc : X.calm = true) : vK X (.builtin "max") (fun xs H Q => ∃ i j, xs = [.int i, .int j] /\ Q (.int (if j > i then j else i)) H) := by
 intro pins s σ H xs us Q I r h;obtain ⟨i, j, rfl, q⟩ := h;obtain ⟨u, w', rfl, ⟨t, rfl⟩, ⟨t', rfl⟩⟩ := zBe r;refine max_two_ints (I.ok.hd hc) fun h' tk k => ⟨_, H, I.kept k, ?_, q⟩;by_cases hj : j > i
 ·rw [if_pos hj, if_pos hj]; exact ⟨_, rfl⟩
 ·rw [if_neg hj, if_neg hj]; exact ⟨_, rfl⟩
theorem zrn (hc : X.calm = true) : vK X (.builtin "min") (fun xs H Q => ∃ i j, xs = [.int i, .int j] /\ Q (.int (if j < i then j else i)) H) := by
 intro pins s σ H xs us Q I r h;obtain ⟨i, j, rfl, q⟩ := h;obtain ⟨u, w', rfl, ⟨t, rfl⟩, ⟨t', rfl⟩⟩ := zBe r;refine min_two_ints (I.ok.hd hc) fun h' tk k => ⟨_, H, I.kept k, ?_, q⟩;by_cases hj : j < i
 ·rw [if_pos hj, if_pos hj]; exact ⟨_, rfl⟩
 ·rw [if_neg hj, if_neg hj]; exact ⟨_, rfl⟩
theorem wE : vK X (.type "str") (fun xs H Q => ∃ i, xs = [.int i] /\ i.natAbs.log2 < 1920 /\ Q (.str (toString i)) H) := by
 intro pins s σ H xs us Q I r h;obtain ⟨i, rfl, hz, q⟩ := h;obtain ⟨u, rfl, t, rfl⟩ := zrt r;exact PySem.P.str_of_int hz ⟨.str _, H, I.tok _, ⟨_, rfl⟩, q⟩
end
structure ObjM (h : Heap) (x dx C : Addr) (mA : Str -> Option Value) : Prop where
 obj : h.get? x = some (PySem.W.instObj C dx)
 ns : h.Ns1 dx mA
 ne : dx ≠ x
theorem zqk {h : Heap} {dx : Addr} {mA : Str -> Option Value} (n : h.Ns1 dx mA) : ∃ od, h.get? dx = some od /\ ∀ name, PySem.W.lookIn name od = some (mA name) := by
 obtain ⟨o, es, ep, ho, hd, hk, _, hm⟩ := n;refine ⟨o, ho, fun name => ?_⟩;have e := hm name;unfold nsFind findBy at e;rw [<- Array.find?_toList] at e;unfold PySem.W.lookIn;rw [hd];dsimp only;split
 ·rename_i y q
  rw [q] at e;exact congrArg some e
 ·rename_i q
  rw [q] at e;have a : es.toList.any (·.refKey) = false := by
   rw [List.any_eq_false];intro y hy;obtain ⟨z, t, hkey⟩ := hk y (Array.mem_toList_iff.mp hy);simp [DictEntry.refKey, hkey]
  have a' : ¬ es.toList.any (·.refKey) = true := by rw [a]; exact Qs
  rw [if_neg a'];exact congrArg some e
theorem ObjM.look {h : Heap} {x dx C : Addr} {mA : Str -> Option Value} (I : ObjM h x dx C mA) : ∃ od, PySem.W.InstAt h x (PySem.W.instObj C dx) C (some od) /\ ∀ name, PySem.W.lookIn name od = some (mA name) :=
 let ⟨od, ho, hl⟩ := zqk I.ns
 ⟨od, ⟨I.obj, rfl, rfl, ho⟩, hl⟩
section
variable {prog : Program} {w : World} {A : Around} {E : Value -> Shared -> Prop} {s : Shared} {K : PySem.W.Frag} {x dx C f : Addr} {mA : Str -> Option Value} {name : Str} {v : Value}
theorem zzt {expr : Bool} {Q : Value -> Shared -> Prop} (X : K.In s.heap) (I : ObjM s.heap x dx C mA) (hg : PySem.W.plainGet K C name = true) (hh : PySem.W.hasDictIn K C = true)
  (ha : PySem.W.findIn K (.ref C) name = some none) (hv : mA name = some v) (hv' : PySem.W.handedIn v = true) (h : Q v { s with toks := s.toks + 1 }) :
  wpAny (model prog w) A (getAttr (.ref x) name expr) Q E s := by
 obtain ⟨od, J, hl⟩ := I.look;exact PySem.W.get_value X J (PySem.W.plainGet_of hg).1 (PySem.W.findObj_own hh ha rfl (by rw [hl, hv])) hv' h
theorem zuo {pl : Sem Bool} {Q : Value × List Value -> Shared -> Prop} (X : K.In s.heap) (I : ObjM s.heap x dx C mA) (hg : PySem.W.plainGet K C name = true)
  (hf : PySem.W.findIn K (.ref C) name = some (some (.ref f))) (ht : PySem.W.isFn K (.ref f) = true) (hv : mA name = none) (h : Q (.ref f, [.ref x]) s) :
  wpAny (model prog w) A (getMethod (.ref x) name pl) Q E s := by
 obtain ⟨od, J, hl⟩ := I.look;exact PySem.W.method_fn X J (PySem.W.plainGet_of hg).1 (PySem.W.plainGet_of hg).2 hf (beq_iff_eq.mp ht) (by show (PySem.W.lookIn name od).map (·.isSome) = some false; rw [hl, hv]; rfl) h
theorem zya {ns : List Str} {Q : Unit -> Shared -> Prop} (X : K.In s.heap) (I : ObjM s.heap x dx C mA)
  (hs : PySem.W.findIn K (.ref C) "__setattr__" = some (some (.builtin "object.__setattr__"))) (hp : PySem.W.plainOver K C = true) (ht : PySem.W.takerIn K C name = some none) (hh : PySem.W.hasDictIn K C = true)
  (hw : PySem.Within mA ns) (hsz : ns.length <= sizeLine)
  (h : ∀ h', ObjM h' x dx C (fun y => if y = name then some v else mA y) -> Heap.SameBut dx s.heap h' -> Q () { s with heap := h', toks := s.toks + 2 }) :
  wpAny (model prog w) A (setAttr (.ref x) name v) Q E s := by
 obtain ⟨od, J, hl⟩ := I.look;refine PySem.W.set_plain X J hs (PySem.W.osa_open (s := { s with toks := s.toks + 1 }) (r := none) X J hp ht fun b => ?_);obtain ⟨cd, hc, hd'⟩ := PySem.W.any_some hh;have hx : s.heap.get? x = some ⟨.ref C, some dx, .plain, #[]⟩ := I.obj;refine Qq (Qr (Qq (Qq (wpAny_loadPart hx (Qq (PySem.W.Looks.here (s := { s with toks := s.toks + 1 }) (PySem.W.looks_clsIn X hc) ?_))))));rw [hd'];refine Qr (a := some dx) (Qq (Qr (Qq ?_)));refine wpAny_nsSet1 (s := { s with toks := s.toks + 1 }) I.ns fun h' hn2 hs2 => ?_;obtain ⟨oD, esD, epD, hoD, hdD, hcD⟩ := hn2.count (PySem.Within.cons name v hw);refine Qq (wpAny_lookBehind hoD (by rw [hdD]; exact pastItsLine_dict (Qc hcD (by rw [Q1]; lia))) ?_);exact Qr (h _ ⟨(hs2.2 _ (Ne.symm I.ne)).trans I.obj, hn2, I.ne⟩ hs2)
theorem zuh {R : Result -> Shared -> Prop} {vs : List Value} {kw : List (Str × Value)} (X : K.In s.heap) (hm : PySem.W.makesIn K C = true)
  (hi : PySem.W.findIn K (.ref C) "__init__" = some (some (.ref f))) (hf : PySem.W.typeIn K (.ref f) = some (.type "function"))
  (h : codeAny (model prog w) (A.under (.builtin "type.__call__" ⟨.ref C :: vs, kw⟩)) (.call (.ref f) ⟨.ref (s.heap.objs.size + 1) :: vs, kw⟩) (PySem.W.InitBack (s.heap.objs.size + 1) R)
   { s with heap := (s.heap.push PySem.W.emptyDict).push (PySem.W.instObj C s.heap.objs.size) }) :
  codeAny (model prog w) A (.call (.ref C) ⟨vs, kw⟩) R s := by
 obtain ⟨hh, g, d, t, os⟩ := s;exact PySem.W.make_core (PySem.W.makes_of X hm) (PySem.W.looks_findIn X hi) (fun self => PySem.W.bind_fn X self hf) (.inl rfl) h
end
def zbc (f : Str) (v : V) : List (Str × V) -> List (Str × V)
 | [] => [(f, v)]
 | (g, x) :: r => if g = f then (g, v) :: r else (g, x) :: zbc f v r
theorem vZ (f g : Str) (v : V) : ∀ fs : List (Str × V), (zbc f v fs).lookup g = if g = f then some v else fs.lookup g
 | [] => by
  show List.lookup g [(f, v)] = _;by_cases h : g = f
  ·have hb : (g == f) = true := beq_iff_eq.mpr h;simp only [List.lookup, hb, if_pos h]
  ·have hb : (g == f) = false := beq_eq_false_iff_ne.mpr h;simp only [List.lookup, hb, if_neg h]
 | (k, x) :: r => by
  have ih := vZ f g v r;rw [show zbc f v ((k, x) :: r) = (if k = f then (k, v) :: r else (k, x) :: zbc f v r) from rfl];by_cases hk : k = f
  ·rw [if_pos hk];by_cases h : g = k
   ·have hb : (g == k) = true := beq_iff_eq.mpr h;simp only [List.lookup, hb, if_pos (h.trans hk)]
   ·have hb : (g == k) = false := beq_eq_false_iff_ne.mpr h;simp only [List.lookup, hb, if_neg (fun e : g = f => h (e.trans hk.symm))]
  ·rw [if_neg hk];by_cases h : g = k
   ·have hb : (g == k) = true := beq_iff_eq.mpr h;simp only [List.lookup, hb, if_neg (fun e : g = f => hk (h.symm.trans e))]
   ·have hb : (g == k) = false := beq_eq_false_iff_ne.mpr h;simp only [List.lookup, hb];exact ih
theorem zbr (f : Str) (v : V) : ∀ fs : List (Str × V), f ∈ (zbc f v fs).map (·.1) /\ ∀ g, g ∈ fs.map (·.1) -> g ∈ (zbc f v fs).map (·.1)
 | [] => ⟨by simp [zbc], fun g h => by simp at h⟩
 | (k, x) :: r => by
  obtain ⟨i1, i2⟩ := zbr f v r;rw [show zbc f v ((k, x) :: r) = (if k = f then (k, v) :: r else (k, x) :: zbc f v r) from rfl];by_cases hk : k = f
  ·rw [if_pos hk];subst hk;exact ⟨by simp, fun g h => by simpa using h⟩
  ·rw [if_neg hk];refine ⟨?_, fun g h => ?_⟩
   ·rw [Jq];exact Qk _ i1
   ·rw [Jq] at h ⊢;rcases Qy.mp h with e | e
    ·exact Qy.mpr (.inl e)
    ·exact Qk _ (i2 g e)
theorem zce (f : Str) (v : V) : ∀ fs : List (Str × V), (zbc f v fs).length <= fs.length + 1
 | [] => by simp [zbc]
 | (k, x) :: r => by
  have ih := zce f v r;rw [show zbc f v ((k, x) :: r) = (if k = f then (k, v) :: r else (k, x) :: zbc f v r) from rfl];by_cases hk : k = f
  ·rw [if_pos hk, Q1, Q1]; lia
  ·rw [if_neg hk, Q1, Q1]; lia
theorem RelO.some_of {v : V} {o : Option Value} (r : RelO (some v) o) : ∃ u, o = some u /\ RelV v u := by
 cases o with
 | none => exact (show False from r).elim
 | some u => exact ⟨u, rfl, r⟩
theorem RelO.none_of {o : Option Value} (r : RelO none o) : o = none := by
 cases o with
 | none => rfl
 | some u => exact (show False from r).elim
theorem zqv {v : V} {u : Value} (r : RelV v u) : PySem.W.handedIn u = true := by
 cases v with
 | non => cases (show u = Value.none from r); rfl
 | bl b => cases (show u = Value.bool b from r); rfl
 | int i => obtain ⟨t, e⟩ := (show ∃ t, u = Value.int i t from r); cases e; rfl
 | str x => obtain ⟨t, e⟩ := (show ∃ t, u = Value.str x t from r); cases e; rfl
 | byt b => obtain ⟨t, e⟩ := (show ∃ t, u = Value.bytes b t from r); cases e; rfl
 | flt b => obtain ⟨t, e⟩ := (show ∃ t, u = Value.float b t from r); cases e; rfl
 | ref a => cases (show u = Value.ref a from r); rfl
 | ty n => cases (show u = Value.type n from r); rfl
section
variable {P : Program} {w : World} {H H' : Hp} {h h' : Heap} {a C dx : Addr} {fs fs' : List (Str × V)}
theorem zdy (hok : HOk P w H h) (e : H a = some (.ins C dx fs)) : ∃ mA, ObjM h a dx C mA /\ (∀ f, RelO (fs.lookup f) (mA f)) /\ PySem.Within mA (fs.map (·.1)) /\ fs.length <= 1000 /\ H dx = some (.own a) := by
 obtain ⟨d, z, ne, ob, mA, n, r, q⟩ := (show ObjOk P w H h a (.ins C dx fs) from hok a _ e);exact ⟨mA, ⟨ob, n, ne⟩, r, q, z, d⟩
end
structure Cls (K : PySem.W.Frag) (C : Addr) : Prop where
 pg : PySem.W.plainGet K C Str.empty = true
 hd : PySem.W.hasDictIn K C = true
 po : PySem.W.plainOver K C = true
 sa : PySem.W.findIn K (.ref C) "__setattr__" = some (some (.builtin "object.__setattr__"))
theorem Cls.get {K : PySem.W.Frag} {C : Addr} (c : Cls K C) (f : Str) : PySem.W.plainGet K C f = true := c.pg
def NoAttr (K : PySem.W.Frag) (C : Addr) (f : Str) : Prop := PySem.W.findIn K (.ref C) f = some none
theorem NoAttr.taker {K : PySem.W.Frag} {C : Addr} {f : Str} (n : NoAttr K C f) : PySem.W.takerIn K C f = some none := by
 unfold PySem.W.takerIn;rw [show PySem.W.findIn K (.ref C) f = some none from n];rfl
structure znd (K : PySem.W.Frag) (C : Addr) (m : Str) (f : Addr) : Prop where
 at_ : PySem.W.findIn K (.ref C) m = some (some (.ref f))
 fn : PySem.W.isFn K (.ref f) = true
 kp : PySem.W.keepIn K (.ref f) = true
section
variable {X : Cx} {pins : List (Addr × Obj)} {σ : St} {H : Hp} {s : Shared} {a C dx : Addr} {fs : List (Str × V)} {f : Str} {v : V} {A : Around} {E : Value -> Shared -> Prop}
theorem zmr {b : Bool} {Q : Value -> Shared -> Prop} (I : Inv X pins σ H s) (e : H a = some (.ins C dx fs)) (c : Cls X.K C) (n : NoAttr X.K C f) (l : fs.lookup f = some v)
  (h : ∀ u s', Inv X pins σ H s' -> RelV v u -> Q u s') : wpAny (model X.prog X.w) A (getAttr (.ref a) f b) Q E s := by
 obtain ⟨mA, O, r, _, _, _⟩ := zdy I.hok e;obtain ⟨u, hu, ru⟩ := RelO.some_of (v := v) (o := mA f) (by rw [<- l]; exact r f);exact zzt I.kIn O (c.get f) c.hd n hu (zqv ru) (h u _ (I.tok _) ru)
theorem zdz {m : Str} {g : Addr} {pl : Sem Bool} {Q : Value × List Value -> Shared -> Prop} (I : Inv X pins σ H s) (e : H a = some (.ins C dx fs)) (c : Cls X.K C) (k : znd X.K C m g) (l : fs.lookup m = none)
  (h : Q (.ref g, [.ref a]) s) : wpAny (model X.prog X.w) A (getMethod (.ref a) m pl) Q E s := by
 obtain ⟨mA, O, r, _, _, _⟩ := zdy I.hok e;have hn : mA m = none := RelO.none_of (by rw [<- l]; exact r m);exact zuo I.kIn O (c.get m) k.at_ k.fn hn h
theorem zma {y : V} {u : Value} {Q : Unit -> Shared -> Prop} (I : Inv X pins σ H s) (e : H a = some (.ins C dx fs)) (c : Cls X.K C) (n : NoAttr X.K C f) (hl : fs.length < 1000) (ry : RelV y u)
  (h : ∀ s', Inv X pins σ (upd H a (.ins C dx (zbc f y fs))) s' -> Q () s') : wpAny (model X.prog X.w) A (setAttr (.ref a) f u) Q E s := by
 obtain ⟨mA, O, r, wi, _, ho⟩ := zdy I.hok e;have hz : (fs.map (·.1)).length <= sizeLine := by rw [Qj, sizeLine_eq]; lia
 refine zya I.kIn O c.sa c.po n.taker c.hd wi hz fun h' O' sb => h _ ?_;have hd : ∃ o, h'.get? dx = some o := let ⟨o, _, _, e', _⟩ := O'.ns; ⟨o, e'⟩;refine I.write (x := a) (e := dx) (by rw [e]; exact True.intro) (.inr ho) (fun b q hb z => (sb.2 b hb).trans z) hd ?_;refine ⟨by rw [zS O.ne]; exact ho, ?_, O.ne, O'.obj, _, O'.ns, fun g => ?_, fun g hg => ?_⟩
 ·have := zce f y fs; lia
 ·show RelO ((zbc f y fs).lookup g) (if g = f then some u else mA g);rw [vZ];by_cases q : g = f
  ·rw [if_pos q, if_pos q]; exact ry
  ·rw [if_neg q, if_neg q]; exact r g
 ·by_cases q : g = f
  ·rw [q]; exact (zbr f y fs).1
  ·refine (zbr f y fs).2 g (wi g fun z => hg ?_);show (if g = f then some u else mA g) = none;rw [if_neg q]; exact z
theorem Inv.made (I : Inv X pins σ H s) : Inv X pins σ (upd (upd H s.heap.objs.size (.own (s.heap.objs.size + 1))) (s.heap.objs.size + 1) (.ins C s.heap.objs.size []))
  { s with heap := (s.heap.push PySem.W.emptyDict).push (PySem.W.instObj C s.heap.objs.size) } := by
 have e1 : (s.heap.push PySem.W.emptyDict).get? s.heap.objs.size = some PySem.W.emptyDict := Qh s.heap rfl;have e2 : ((s.heap.push PySem.W.emptyDict).push (PySem.W.instObj C s.heap.objs.size)).get? (s.heap.objs.size + 1) = some (PySem.W.instObj C s.heap.objs.size) := by
  have := Qh (s.heap.push PySem.W.emptyDict) (o := PySem.W.instObj C s.heap.objs.size) rfl
  rwa [Jg] at this
 have e3 : (s.heap.push PySem.W.emptyDict).Ns s.heap.objs.size (fun _ => none) := ⟨PySem.W.emptyDict, #[], _, e1, rfl, (fun e he => absurd he (by simp)), fun _ => rfl⟩;have I1 := I.laid (a := s.heap.objs.size) (o := .own (s.heap.objs.size + 1)) (h' := s.heap.push PySem.W.emptyDict) (t' := s.toks) (fun b u q => Qz _ q) (Qx _) ⟨_, e1⟩;refine I1.laid (a := s.heap.objs.size + 1) (o := .ins C s.heap.objs.size []) (t' := s.toks) (fun b u q => Qz _ q) (Nat.le_of_eq (Jg _ _)) ?_;have ne : s.heap.objs.size ≠ s.heap.objs.size + 1 := Qd (Nat.lt_succ_self _);refine ⟨by rw [zS ne, zB], Jw _, ne, e2, fun _ => none, (Heap.Ns1.of_empty e3).at fun o q => Qz _ q, fun _ => True.intro, fun y hy => absurd rfl hy⟩
theorem zBa {prog : Program} {w : World} {env : Env} {e : Expr} {f : Str} {pos : Pos} {s : Shared} {Q : Value -> Shared -> Prop} (hb : attributeBase e f env (eval e env) = eval e env)
  (h : wpAny (model prog w) A (eval e env) (fun o s₁ => wpAny (model prog w) A (getAttr o f true) Q E s₁) E s) : wpAny (model prog w) A (eval (.Attribute e f pos) env) Q E s :=
 Attribute_any_ h (by rw [arm_eval_Attribute, hb])
end
def zIq (K : PySem.W.Frag) (ta : TE) (f : Str) : TE := fun σ H Q => ta σ H fun x H1 => ∃ a C dx fs v, x = .ref a /\ H1 a = some (.ins C dx fs) /\ Cls K C /\ NoAttr K C f /\ fs.lookup f = some v /\ Q v H1
def zIu (K : PySem.W.Frag) (ta tv : TE) (f : Str) : TS := fun D σ H => tv σ H fun y H1 => ta σ H1 fun x H2 => ∃ a C dx fs, x = .ref a /\ H2 a = some (.ins C dx fs) /\ Cls K C /\ NoAttr K C f /\ fs.length < 1000 /\
 D.nx σ (upd H2 a (.ins C dx (zbc f y fs)))
section
variable {X : Cx} {o e value : Expr} {f : Str} {pos pos' tpos : Pos} {ta tv : TE}
theorem znk (he : PE X e ta) (hb : attributeBase e f X.env (eval e X.env) = eval e X.env) : PE X (.Attribute e f pos) (zIq X.K ta f) := by
 intro pins s σ H Q I h;refine zBa hb (thn (he pins s σ H _ I h) fun u s1 ⟨x, H1, I1, rx, a, C, dx, fs, v, ex, ea, c, n, l, q⟩ => ?_);subst ex;obtain rfl : u = Value.ref a := rx;exact zmr I1 ea c n l fun u' s2 I2 ru => ⟨v, H1, I2, ru, q⟩
theorem zDk (ha : PE X o ta) (hv : PE X value tv) (hs : swapsWith value (some (.Attribute o f pos')) pos.line X.env = pure false) : PS X (.Assign [.Attribute o f pos'] value pos) (zIu X.K ta tv f) := by
 intro pins s σ H D I h;refine plainObj_wpAny_Assign_Attribute (thn (hv pins s σ H _ I h) fun u s1 ⟨y, H1, I1, ry, q⟩ => thn (ha pins s1 σ H1 _ I1 q) fun ov s2 ⟨x, H2, I2, rx, a, C, dx, fs, ex, ea, c, n, l, q2⟩ => ?_) hs;subst ex;obtain rfl : ov = Value.ref a := rx;exact zma I2 ea c n l ry fun s3 I3 => ⟨σ, _, I3, q2⟩
end
section
variable {X : Cx} {pins : List (Addr × Obj)} {σ : St} {H : Hp} {s : Shared} {A : Around} {E : Value -> Shared -> Prop} {Q : Value -> Shared -> Prop} {c : Value} {b : Bool}
inductive gO (K : PySem.W.Frag) (H : Hp) : V -> Value -> Prop where
 | non : gO K H .non (.type "NoneType")
 | bl (x : Bool) : gO K H (.bl x) (.type "bool")
 | int (i : Int) : gO K H (.int i) (.type "int")
 | str (x : Str) : gO K H (.str x) (.type "str")
 | flt (x : UInt64) : gO K H (.flt x) (.type "float")
 | lst {a : Addr} {xs : List V} (e : H a = some (.lst xs)) : gO K H (.ref a) (.type "list")
 | frz {a : Addr} {o : Obj} {xs : List V} (e : H a = some (.frz o (.lst xs))) : gO K H (.ref a) (.type "list")
 | tup {a : Addr} {xs : List V} (e : H a = some (.tup xs)) : gO K H (.ref a) (.type "tuple")
 | dK {a : Addr} {kvs : List (Key × V)} (e : H a = some (.dK kvs)) : gO K H (.ref a) (.type "dict")
 | dT {a : Addr} {kvs : List (List Key × V)} (e : H a = some (.dT kvs)) : gO K H (.ref a) (.type "dict")
 | ins {a C dx : Addr} {fs : List (Str × V)} (e : H a = some (.ins C dx fs)) (cl : Cls K C) (ha : PySem.W.findIn K (.ref C) "__class__" = some (some (.builtin "object.__class__")))
   (hn : PySem.W.specialIn K (.builtin "object.__class__") "__get__" = some (some (.builtin "getset_descriptor.__get__"))) (htk : PySem.W.takesIn K (.builtin "object.__class__") = some true)
   (hm : PySem.W.mroIn K C (.type "object") = some true) : gO K H (.ref a) (.ref C)
theorem zqt {x : V} {u t : Value} (I : Inv X pins σ H s) (rx : RelV x u) (ty : gO X.K H x t) (e : PySem.W.kitOne X.K t c = some b) (h : ∀ tk, Q (.bool b) { s with toks := tk }) :
  wpAny (model X.prog X.w) A (call (.builtin "isinstance") [u, c]) Q E s := by
 cases ty with
 | non => cases (show u = Value.none from rx); exact PySem.W.kia_one PySem.W.kitx_none I.kIn True.intro e (fun z => nomatch z) h
 | bl y => cases (show u = Value.bool y from rx); exact PySem.W.kia_one PySem.W.kitx_bool I.kIn True.intro e (fun z => nomatch z) h
 | int i => obtain ⟨t, q⟩ := (show ∃ t, u = Value.int i t from rx); cases q; exact PySem.W.kia_one PySem.W.kitx_int I.kIn True.intro e (fun z => nomatch z) h
 | str y => obtain ⟨t, q⟩ := (show ∃ t, u = Value.str y t from rx); cases q; exact PySem.W.kia_one PySem.W.kitx_str I.kIn True.intro e (fun z => nomatch z) h
 | flt y => obtain ⟨t, q⟩ := (show ∃ t, u = Value.float y t from rx); cases q; exact PySem.W.kia_one PySem.W.kitx_float I.kIn True.intro e (fun z => nomatch z) h
 | @lst a xs ea =>
  cases (show u = Value.ref a from rx)
  obtain ⟨_, _, n, _, h1⟩ := (show ObjOk X.prog X.w H s.heap a (.lst xs) from I.hok a _ ea);exact PySem.W.kia_one PySem.W.kitx_list I.kIn ⟨_, h1, rfl⟩ e (fun z => nomatch z) h
 | @frz a ob xs ea =>
  cases (show u = Value.ref a from rx)
  obtain ⟨_, _, _, n, _, h1⟩ := (show ObjOk X.prog X.w H s.heap a (.frz ob (.lst xs)) from I.hok a _ ea);exact PySem.W.kia_one PySem.W.kitx_list I.kIn ⟨_, h1, rfl⟩ e (fun z => nomatch z) h
 | @tup a xs ea =>
  cases (show u = Value.ref a from rx)
  obtain ⟨_, _, _, p⟩ := (show ObjOk X.prog X.w H s.heap a (.tup xs) from I.hok a _ ea);obtain ⟨o, h1, h2, _⟩ := p;exact PySem.W.kia_one PySem.W.kitx_tuple I.kIn ⟨o, h1, h2⟩ e (fun z => nomatch z) h
 | @dK a kvs ea =>
  cases (show u = Value.ref a from rx)
  obtain ⟨_, _, vs, _, p⟩ := (show ObjOk X.prog X.w H s.heap a (.dK kvs) from I.hok a _ ea);obtain ⟨o, es, ep, h1, h2, _⟩ := p;exact PySem.W.kia_one PySem.W.kitx_dict I.kIn ⟨o, h1, h2.1⟩ e (fun z => nomatch z) h
 | @dT a kvs ea =>
  cases (show u = Value.ref a from rx)
  obtain ⟨_, _, xs, _, o, es, ep, h1, h2, _⟩ := (show ObjOk X.prog X.w H s.heap a (.dT kvs) from I.hok a _ ea);exact PySem.W.kia_one PySem.W.kitx_dict I.kIn ⟨o, h1, h2.1⟩ e (fun z => nomatch z) h
 | @ins a C dx fs ea cl ha hn htk hm =>
  cases (show u = Value.ref a from rx)
  obtain ⟨mA, O, _⟩ := zdy I.hok ea;obtain ⟨od, J, _⟩ := O.look;exact PySem.W.kia_one (PySem.W.kitx_own (cl.get _) cl.hd ha hn htk hm) I.kIn J e (fun z => nomatch z) h
end
structure Room (k : Nat) (A : Around) : Prop where
 hd : A.handled = none
 dp : A.depth + 3 * k + 5 < recursionLimit
 un : A.units + 16 * k + 200 < cLine
theorem Room.mono {j k : Nat} {A : Around} (r : Room k A) (h : j <= k) : Room j A := ⟨r.hd, by have := r.dp; lia, by have := r.un; lia⟩
theorem Room.deeper {k : Nat} {A : Around} (r : Room (k + 1) A) (env : Env) : Room k (A.deeper env) :=
 ⟨r.hd, by have := r.dp; show A.depth + 1 + 3 * k + 5 < _; lia, by have := r.un; show A.units + 3 + 16 * k + 200 < _; lia⟩
theorem zml {A : Around} {C : Addr} {us : List Value} {kw : List (Str × Value)} : (A.under (.builtin "type.__call__" ⟨.ref C :: us, kw⟩)).depth = A.depth + 1 := by
 first | rfl | simp [Around.under, Code.weight, Code.isCreation, Code.isGuard, Code.isCaller, Code.frames, Code.isFrame, guardIds]
theorem zmk {A : Around} {C : Addr} {us : List Value} {kw : List (Str × Value)} : (A.under (.builtin "type.__call__" ⟨.ref C :: us, kw⟩)).units = A.units + 1 := by
 first | rfl | simp [Around.under, Code.cUnits, Code.frames, Code.isFrame]
theorem Room.make {k : Nat} {A : Around} (r : Room (k + 1) A) (C : Addr) (us : List Value) (kw : List (Str × Value)) : Room k (A.under (.builtin "type.__call__" ⟨.ref C :: us, kw⟩)) :=
 ⟨r.hd, by have := r.dp; rw [zml]; lia, by have := r.un; rw [zmk]; lia⟩
theorem Room.depth {k : Nat} {A : Around} (r : Room k A) : A.depth < recursionLimit := by have := r.dp; lia
theorem Room.units {k : Nat} {A : Around} (r : Room k A) : A.units + 64 < cLine := by have := r.un; lia
def zFk : TA := fun _ H Q => Q [] H
def zBg (ta : TE) (tr : TA) : TA := fun σ H Q => ta σ H fun x H1 => tr σ H1 fun xs H2 => Q (x :: xs) H2
section
variable {X : Cx} {e : Expr} {es : List Expr} {te : TE} {t : TA} {pos : Pos}
theorem zC : PA X [] zFk := fun _ _ _ _ H Q I h => Calls.spliced_nil ⟨[], H, I, .nil, h⟩
theorem zA (ha : PE X e te) (hr : PA X es t) (hs : starEach (e :: es) X.env = (false, eval e X.env) :: starEach es X.env := by rfl) : PA X (e :: es) (zBg te t) := by
 intro pos pins s σ H Q I h;rw [hs];show wpAny _ _ (spliced ((false, eval e X.env) :: backTo pos (starEach es X.env))) _ _ s;refine Calls.spliced_cons (thn (ha pins s σ H _ I h) fun u s1 ⟨x, H1, I1, r1, q1⟩ => ?_);exact thn (hr pos pins s1 σ H1 _ I1 q1) fun us s2 ⟨xs, H2, I2, r2, q2⟩ => ⟨x :: xs, H2, I2, .cons r1 r2, q2⟩
def zIo (t : TA) : TE := fun σ H Q => t σ H fun xs H1 => xs.length <= sizeLine /\ ∀ p, H1 p = none -> Q (.ref p) (upd H1 p (.tup xs))
def zHv (t : TA) : TE := fun σ H Q => t σ H fun xs H1 => xs.length <= sizeLine /\ ∀ p, H1 p = none -> Q (.ref p) (upd H1 p (.lst xs))
theorem wH {x1} (h : PA X es t) : PE X (.Tuple es x1 pos) (zIo t) := by
 intro pins s σ H Q I hq;refine wpAny_Tuple_spliced (thn (h pos pins s σ H _ I hq) fun us s1 ⟨xs, H1, I1, r, z, q⟩ => ⟨by rw [<- r.length]; exact z, ?_⟩);have hf : H1 s1.heap.objs.size = none := I1.hok.fresh (Qx _);refine ⟨.ref s1.heap.objs.size, upd H1 s1.heap.objs.size (.tup xs), I1.laid (t' := s1.toks) (fun b u e => Qz _ e) (Qx _) ?_, rfl, q _ hf⟩;exact ⟨z, us, r, ⟨_, Qh _ rfl, rfl, _, rfl⟩⟩
theorem yF (h : PA X es t) : PE X (.List es pos) (zHv t) := by
 intro pins s σ H Q I hq;refine wpAny_List_spliced (thn (h pos pins s σ H _ I hq) fun us s1 ⟨xs, H1, I1, r, z, q⟩ => ⟨by rw [<- r.length]; exact z, ?_⟩);have hf : H1 s1.heap.objs.size = none := I1.hok.fresh (Qx _);refine ⟨.ref s1.heap.objs.size, upd H1 s1.heap.objs.size (.lst xs), I1.laid (t' := s1.toks) (fun b u e => Qz _ e) (Qx _) ?_, rfl, q _ hf⟩;exact ⟨z, us, 0, r, Qh _ rfl⟩
end
abbrev Sp := List V -> Hp -> VK -> XK -> Prop
abbrev CXT := List Env -> Hp -> Shared -> XK -> Value -> Shared -> Prop
structure Env0 (P : Program) (w : World) (K : PySem.W.Frag) (mg : Str -> Option Value) (base : Heap) (A : Around) (outer : List Env) (s : Shared) (H : Hp) : Prop where
 frames : A.frames = some outer
 mod : Mod K mg base
 bs : ∀ b o, base.get? b = some o -> s.heap.get? b = some o /\ H b = none
 bsz : base.objs.size <= s.heap.objs.size
 funs : s.heap.FunFrames base outer
 frf : ∀ b ∈ frs outer, H b = none
 hok : HOk P w H s.heap
 bare : AllBare s.gens
def CE (outer : List Env) (P : Program) (w : World) (H : Hp) (s : Shared) (Q : VK) (u : Value) (s' : Shared) : Prop :=
 ∃ v H', s'.os = s.os /\ AllBare s'.gens /\ Un (frs outer) [] H H' s.heap s'.heap /\ HOk P w H' s'.heap /\ RelV v u /\ Q v H'
def CR (CX : CXT) (outer : List Env) (P : Program) (w : World) (H : Hp) (s : Shared) (Q : VK) (E : XK) (r : Result) (s' : Shared) : Prop :=
 match r with
 | .ok (.ret u) => CE outer P w H s Q u s'
 | .ok _ => False
 | .error e => CX outer H s E e s'
structure v9 (P : Program) (w : World) (K : PySem.W.Frag) (mg : Str -> Option Value) (base : Heap) (CX : CXT) (k : Nat) (f : Addr) (fd : FuncData) (ps : List Str) (sp : Sp) : Prop where
 len : ∀ vs H Q E, sp vs H Q E -> vs.length = ps.length
 run : ∀ (A : Around) (outer : List Env) (s : Shared) (H : Hp) (args : Args) (us : List Value) (vs : List V) (Q : VK) (E : XK), Room k A -> Env0 P w K mg base A outer s H -> BindsTo s fd args (ps.zip us) -> Vals vs us -> sp vs H Q E ->
  codeAny (model P w) A (.call (.ref f) args) (CR CX outer P w H s Q E) s
theorem Env0.make {P : Program} {w : World} {K : PySem.W.Frag} {mg : Str -> Option Value} {base : Heap} {A : Around} {outer : List Env} {s : Shared} {H : Hp} (e : Env0 P w K mg base A outer s H) (C : Addr) (us : List Value) (kw : List (Str × Value)) :
  Env0 P w K mg base (A.under (.builtin "type.__call__" ⟨.ref C :: us, kw⟩)) outer s H := ⟨by first | exact e.frames | (simpa [Around.under, Code.envs, Code.isFrame, pushEnvs] using e.frames), e.mod, e.bs, e.bsz, e.funs, e.frf, e.hok, e.bare⟩
section
variable {X : Cx} {pins : List (Addr × Obj)} {σ : St} {H : Hp} {s s' : Shared}
theorem Inv.env0 (I : Inv X pins σ H s) : Env0 X.prog X.w X.K X.mg X.base X.A X.stack s H :=
 ⟨I.ok.frames, I.ok.mod, I.bs, Qc I.ok.bsz I.sz, I.stack, I.stkFree, I.hok, I.bare⟩
theorem Inv.after {Q : VK} {u : Value} (I : Inv X pins σ H s) (h : CE X.stack X.prog X.w H s Q u s') : EP X pins σ Q u s' := by
 obtain ⟨v, H', os, bare, un, hok, r, q⟩ := h;obtain ⟨hh, g, d, t, os'⟩ := s';obtain rfl : os' = s.os := os;exact ⟨v, H', I.call (h' := hh) (g' := g) (d' := d) (t' := t) (ch := []) un hok bare (fun b z => absurd z (by simp)), r, q⟩
end
def zic (sp : Sp) (dvs : List V) (E : XK) (t : TA) : TE := fun σ H Q => t σ H fun vs H1 => sp (vs ++ dvs) H1 Q E
def zch (C : Addr) (m : Str) (sp : Sp) (dvs : List V) (E : XK) (ta : TE) (t : TA) : TE := fun σ H Q => ta σ H fun x H1 => ∃ a dx fs, x = .ref a /\ H1 a = some (.ins C dx fs) /\ fs.lookup m = none /\
 t σ H1 fun vs H2 => sp (x :: (vs ++ dvs)) H2 Q E
def zGf (C : Addr) (sp : Sp) (dvs : List V) (E : XK) (t : TA) : TE := fun σ H Q => t σ H fun vs H1 => ∀ x dx, H1 x = none -> H1 dx = none -> dx ≠ x ->
 sp (.ref x :: (vs ++ dvs)) (upd (upd H1 dx (.own x)) x (.ins C dx [])) (fun v H2 => v = .non /\ Q (.ref x) H2) E
def Binds (K : PySem.W.Frag) (fd : FuncData) (ps : List Str) (ds : List Value) : Prop :=
 ∀ (s : Shared) (us : List Value), K.In s.heap -> (us ++ ds).length = ps.length -> BindsTo s fd ⟨us, []⟩ (ps.zip (us ++ ds))
theorem Binds.all {K : PySem.W.Frag} {fd : FuncData} {ps : List Str} (h : ∀ us : List Value, us.length = ps.length -> bindArgs fd ⟨us, []⟩ = pure (ps.zip us)) : Binds K fd ps [] := fun s us _ hl => by
 rw [Jp] at hl ⊢;exact .of_eq (h us hl)
def jK (CX : CXT) (X : Cx) (E : XK) : Prop := ∀ (pins : List (Addr × Obj)) (σ : St) (H : Hp) (s : Shared) (e : Value) (s' : Shared), Inv X pins σ H s -> CX X.stack H s E e s' -> X.xe e s'
section
variable {X : Cx} {CX : CXT} {k : Nat} {f C : Addr} {fd : FuncData} {ps : List Str} {sp : Sp} {dvs : List V} {ds : List Value} {E : XK} {x m : Str} {p pos apos : Pos} {e o : Expr} {es : List Expr} {ta : TE} {t : TA}
theorem zwh {pins : List (Addr × Obj)} {σ : St} {H : Hp} {s : Shared} {Q : VK} {us : List Value} {vs : List V} (F : v9 X.prog X.w X.K X.mg X.base CX k f fd ps sp) (hr : Room k X.A) (hb : Binds X.K fd ps ds) (hd : Vals dvs ds) (hx : jK CX X E)
  (I : Inv X pins σ H s) (r : Vals vs us) (h : sp (vs ++ dvs) H Q E) : wpAny (model X.prog X.w) X.A (call (.ref f) us) (EP X pins σ Q) X.xe s := by
 have r2 : Vals (vs ++ dvs) (us ++ ds) := r.append hd;have hl : (us ++ ds).length = ps.length := by rw [<- r2.length]; exact F.len _ _ _ _ h
 refine wpAny_call (codeAny_mono (F.run X.A X.stack s H ⟨us, []⟩ (us ++ ds) (vs ++ dvs) Q E hr I.env0 (hb s us I.kIn hl) r2 h) fun r s' hq => ?_);cases r with
 | error e => exact hx pins σ H s e s' I hq
 | ok fl =>
  cases fl with
  | ret u => exact I.after hq
  | next => exact False.elim hq
  | brk => exact False.elim hq
  | cont => exact False.elim hq
theorem zhm (F : v9 X.prog X.w X.K X.mg X.base CX k f fd ps sp) (hr : Room k X.A) (hg : Gl X x) (hm : X.mg x = some (.ref f)) (hk : PySem.W.keepIn X.K (.ref f) = true) (hb : Binds X.K fd ps ds) (hd : Vals dvs ds) (hx : jK CX X E)
  (ha : PA X (e :: es) t) (hdb : (x == ("__debug__" : Str)) = false := by decide) (he : starEach (e :: es) X.env = (false, eval e X.env) :: starEach es X.env := by rfl) (hpl : (backTo pos (starEach es X.env)).any (·.1) = false := by rfl) :
  PE X (.Call (.Name x p) (e :: es) [] pos) (zic sp dvs E t) := by
 intro pins s σ H Q I h;refine wpAny_Call_Name_kw (qW I hg hm ?_ hdb);refine PySem.W.callWith_K (h₀ := X.base) I.ok.mod.kin hk (thn (ha pos pins s σ H _ I h) fun us s1 ⟨vs, H1, I1, r, q⟩ => ⟨I1.kIn, ?_⟩) he hpl;exact zwh F hr hb hd hx I1 r q
theorem jZ {pl : Sem Bool} (he : PE X o ta) (c : Cls X.K C) (hm : znd X.K C m f) (F : v9 X.prog X.w X.K X.mg X.base CX k f fd ps sp) (hr : Room k X.A) (hb : Binds X.K fd ps ds) (hd : Vals dvs ds) (hx : jK CX X E) (ha : PA X (e :: es) t)
  (hst : starEach (e :: es) X.env = (false, eval e X.env) :: starEach es X.env := by rfl) (hpl : (backTo pos (starEach es X.env)).any (·.1) = false := by rfl)
  (ht : eval (.Call (.Attribute o m apos) (e :: es) [] pos) X.env = (do
   let ov <- eval o X.env
   standAt apos.atName
   let (f, first) <- holding [ov] (getMethod ov m pl)
   callWith pos f first (backTo pos (starEach (e :: es) X.env)) (backToKw pos (keywordEach [] X.env))) := by rfl) :
  PE X (.Call (.Attribute o m apos) (e :: es) [] pos) (zch C m sp dvs E ta t) := by
 intro pins s σ H Q I h;refine PySem.W.methodCall_KW (pl := pl) (thn (he pins s σ H _ I h) fun u s1 ⟨x, H1, I1, rx, a, dx, fs, ex, ea, l, q⟩ => ?_) ht;subst ex;obtain rfl : u = Value.ref a := rx;refine zdz I1 ea c hm l ?_;refine PySem.W.callWith_K (first := [.ref a]) (h₀ := X.base) I.ok.mod.kin hm.kp (thn (ha pos pins s1 σ H1 _ I1 q) fun us s2 ⟨vs, H2, I2, r, q2⟩ => ⟨I2.kIn, ?_⟩) hst hpl;exact zwh (us := .ref a :: us) (vs := .ref a :: vs) F hr hb hd hx I2 (.cons rfl r) q2
structure Mk (K : PySem.W.Frag) (C f : Addr) : Prop where
 makes : PySem.W.makesIn K C = true
 init : PySem.W.findIn K (.ref C) "__init__" = some (some (.ref f))
 fn : PySem.W.isFn K (.ref f) = true
 kp : PySem.W.keepIn K (.ref C) = true
theorem ztl {pins : List (Addr × Obj)} {σ : St} {H : Hp} {s : Shared} {Q : VK} {us : List Value} {vs : List V} (M : Mk X.K C f) (F : v9 X.prog X.w X.K X.mg X.base CX k f fd ps sp) (hr : Room (k + 1) X.A) (hb : Binds X.K fd ps ds) (hd : Vals dvs ds)
  (hx : jK CX X E) (I : Inv X pins σ H s) (r : Vals vs us)
  (h : ∀ x dx, H x = none -> H dx = none -> dx ≠ x -> sp (.ref x :: (vs ++ dvs)) (upd (upd H dx (.own x)) x (.ins C dx [])) (fun v H2 => v = .non /\ Q (.ref x) H2) E) :
  wpAny (model X.prog X.w) X.A (call (.ref C) us) (EP X pins σ Q) X.xe s := by
 have hq := h (s.heap.objs.size + 1) s.heap.objs.size (I.hok.fresh (Nat.le_succ _)) (I.hok.fresh (Qx _)) (Qd (Nat.lt_succ_self _));have I2 := Inv.made (C := C) I;have r2 : Vals (V.ref (s.heap.objs.size + 1) :: (vs ++ dvs)) (Value.ref (s.heap.objs.size + 1) :: (us ++ ds)) := .cons rfl (r.append hd);have hl : (Value.ref (s.heap.objs.size + 1) :: us ++ ds).length = ps.length := by
  have e := r2.length;rw [F.len _ _ _ _ hq] at e;exact e.symm
 refine wpAny_call (zuh (f := f) I.kIn M.makes M.init (beq_iff_eq.mp M.fn) (codeAny_mono (F.run _ X.stack _ _ ⟨Value.ref (s.heap.objs.size + 1) :: us, []⟩ (Value.ref (s.heap.objs.size + 1) :: (us ++ ds)) _ _ E (hr.make C us [])
  (I2.env0.make C us []) (hb _ (Value.ref (s.heap.objs.size + 1) :: us) I2.kIn hl) r2 hq) fun r s' hq' => ?_))
 cases r with
 | error e => exact hx pins σ _ _ e s' I2 hq'
 | ok fl =>
  cases fl with
  | ret u =>
   obtain ⟨v, H', I3, rv, ev, q3⟩ := I2.after hq';subst ev;exact ⟨rv, ⟨V.ref (s.heap.objs.size + 1), H', I3, rfl, q3⟩⟩
  | next => exact False.elim hq'
  | brk => exact False.elim hq'
  | cont => exact False.elim hq'
theorem ztu (M : Mk X.K C f) (F : v9 X.prog X.w X.K X.mg X.base CX k f fd ps sp) (hr : Room (k + 1) X.A) (hg : Gl X x) (hm : X.mg x = some (.ref C)) (hb : Binds X.K fd ps ds) (hd : Vals dvs ds) (hx : jK CX X E)
  (hdb : (x == ("__debug__" : Str)) = false := by decide) : PE X (.Call (.Name x p) [] [] pos) (zGf C sp dvs E zFk) := by
 intro pins s σ H Q I h;refine wpAny_Call_Name_kw (qW I hg hm ?_ hdb);exact PySem.W.callWith_K0 I.kIn M.kp (ztl (us := []) M F hr hb hd hx I .nil h)
end
def PK (X : Cx) (kws : List Keyword) (t : TA) : Prop :=
 ∀ (pos : Pos) (pins : List (Addr × Obj)) (s : Shared) (σ : St) (H : Hp) (Q : List V -> Hp -> Prop), Inv X pins σ H s -> t σ H Q -> wpAny (model X.prog X.w) X.A (evalAll ((backToKw pos (keywordEach kws X.env)).map (·.2))) (AP X pins σ Q) X.xe s
section
variable {X : Cx} {CX : CXT} {k : Nat} {f C : Addr} {fd : FuncData} {ps ks : List Str} {sp : Sp} {E : XK} {x m : Str} {p pos apos kpos : Pos} {e o : Expr} {es : List Expr} {kws : List Keyword} {te ta : TE} {t tk : TA} {nm : Option Str}
variable {g : List Value -> List Value -> List Value} {gV : List V -> List V -> List V}
end
structure zR (N P : List Str) (sc : Scope) : Prop where
 kind : sc.kind = .function
 co : sc.isCoroutine = false
 gen : sc.isGenerator = false
 nd : N.Nodup
 pre : N.take P.length = P
 par : ∀ x ∈ P, sc.names.lookup x = some .local \/ sc.names.lookup x = some .cell
 nofree : ∀ y ∈ sc.names, y.2 ≠ .free
theorem zgo {kindOf : Str -> Option NameKind} {x : Str} : ∀ {binds : List (Str × Value)} {m : Str -> Option Value}, (∀ v, (x, v) ∉ binds) -> bindL kindOf binds m x = m x
 | [], _, _ => rfl
 | (n, v) :: r, m, h => by
  unfold bindL;rw [zgo fun w hw => h w (Qk _ hw)];split
  ·have : x ≠ n := by rintro rfl; exact h v Qg
   simp [this]
  ·rfl
theorem zgq {kindOf : Str -> Option NameKind} {x : Str} : ∀ {binds : List (Str × Value)} {m : Str -> Option Value}, (∀ v, (x, v) ∉ binds) -> bindC kindOf binds m x = m x
 | [], _, _ => rfl
 | (n, v) :: r, m, h => by
  unfold bindC;rw [zgq fun w hw => h w (Qk _ hw)];split
  ·rfl
  ·have : x ≠ n := by rintro rfl; exact h v Qg
   simp [this]
theorem zgp {kindOf : Str -> Option NameKind} {x : Str} {v : Value} : ∀ {P : List Str} {vs : List Value} {i : Nat} {m : Str -> Option Value}, P.Nodup -> P[i]? = some x -> vs[i]? = some v -> kindOf x = some .local ->
  bindL kindOf (P.zip vs) m x = some v
 | [], _, _, _, _, h, _, _ => by simp at h
 | _ :: _, [], _, _, _, _, h, _ => by simp at h
 | p :: P, w :: vs, 0, m, nd, h1, h2, hk => by
  simp at h1 h2; subst h1; subst h2;show bindL kindOf ((p, w) :: P.zip vs) m p = _;unfold bindL;rw [zgo fun v hv => (List.nodup_cons.mp nd).1 (List.of_mem_zip hv).1, if_pos hk];simp
 | p :: P, w :: vs, i + 1, m, nd, h1, h2, hk => by
  show bindL kindOf ((p, w) :: P.zip vs) m x = _;unfold bindL;exact zgp (i := i) (List.nodup_cons.mp nd).2 (by simpa using h1) (by simpa using h2) hk
theorem zgr {kindOf : Str -> Option NameKind} {x : Str} {v : Value} : ∀ {P : List Str} {vs : List Value} {i : Nat} {m : Str -> Option Value}, P.Nodup -> P[i]? = some x -> vs[i]? = some v -> kindOf x ≠ some .local ->
  bindC kindOf (P.zip vs) m x = some v
 | [], _, _, _, _, h, _, _ => by simp at h
 | _ :: _, [], _, _, _, _, h, _ => by simp at h
 | p :: P, w :: vs, 0, m, nd, h1, h2, hk => by
  simp at h1 h2; subst h1; subst h2;show bindC kindOf ((p, w) :: P.zip vs) m p = _;unfold bindC;rw [zgq fun v hv => (List.nodup_cons.mp nd).1 (List.of_mem_zip hv).1, if_neg hk];simp
 | p :: P, w :: vs, i + 1, m, nd, h1, h2, hk => by
  show bindC kindOf ((p, w) :: P.zip vs) m x = _;unfold bindC;exact zgr (i := i) (List.nodup_cons.mp nd).2 (by simpa using h1) (by simpa using h2) hk
def qM (N : List Str) (vs : List V) : St := vs.map some ++ List.replicate (N.length - vs.length) none
def xU (CX : CXT) (P : Program) (w : World) (K : PySem.W.Frag) (mg : Str -> Option Value) (base : Heap) (N : List Str) (qual : Str) (scope : Scope) (f : Addr) (cd : Value) (A : Around) (outer : List Env) (s : Shared) (H : Hp) (E : XK) : Cx where
 prog := P
 w := w
 K := K
 mg := mg
 base := base
 A := A.deeper (envOfC qual scope s.heap.objs.size f cd)
 N := N
 s₀ := s
 H₀ := H
 env := envOfC qual scope s.heap.objs.size f cd
 outer := outer
 stack := envOfC qual scope s.heap.objs.size f cd :: outer
 ex := []
 calm := true
 fn := fun _ => true
 pn := []
 xe := fun e s' => wpAny (model P w) (A.deeper (envOfC qual scope s.heap.objs.size f cd)) (leaving (envOfC qual scope s.heap.objs.size f cd) e) (fun _ s'' => CX outer H s E e s'') (fun e' s'' => CX outer H s E e' s'') s'
theorem zlj {sc : Scope} {n : Nat} {x : Str} (h : sc.names.lookup x = some .cell) : ∃ c, (cellsFrom n sc.names []).lookup x = some c := by
 have q := PySem.W.cellsFrom_some sc.names n [] (.inl h);exact Option.isSome_iff_exists.mp q
theorem zgh {CX : CXT} {P : Program} {w : World} {K : PySem.W.Frag} {mg : Str -> Option Value} {base : Heap} {N ps : List Str} {qual : Str} {scope : Scope} {f : Addr} {cd : Value} {A : Around} {outer : List Env} {s s1 : Shared} {H : Hp} {E : XK} {us : List Value} {vs : List V}
  (S : zR N ps scope) (hd : A.handled = none) (e0 : Env0 P w K mg base A outer s H) (hl : vs.length = ps.length) (r : Vals vs us)
  (x : InCallC s s.heap.objs.size (bindL (envOfC qual scope s.heap.objs.size f cd).kindOf (ps.zip us) fun _ => none) (cellsFrom (s.heap.objs.size + 1) scope.names []) (bindC (envOfC qual scope s.heap.objs.size f cd).kindOf (ps.zip us) fun _ => none) s1) :
  Inv (xU CX P w K mg base N qual scope f cd A outer s H E) [] (qM N vs) H s1 := by
 have hpl : ps.length <= N.length := by have := congrArg List.length S.pre; rw [Jm] at this; lia
 obtain ⟨h1, tk, rfl, hk⟩ := x.done;have noA : ∀ b : Addr, b ∉ (xU CX P w K mg base N qual scope f cd A outer s H E).ex := fun b z => absurd (show b ∈ ([] : List Addr) from z) (by simp);refine ⟨⟨e0.mod, S.kind, rfl, rfl, Qx _, fun y z c h1 h2 => ?_, fun y hy => ?_, fun y c _ h => ?_, fun _ => hd, Around.frames_deeper e0.frames, .inr ⟨rfl, rfl⟩, fun b z => absurd z (noA b), e0.bs, e0.bsz, fun b _ _ => noA b, fun b z => absurd z (noA b), e0.funs, e0.frf⟩,
  rfl, e0.bare, Un.kept hk, ⟨_, x.toInCall.ns, fun i y v h1 h2 h3 => ?_⟩, fun y c h => ⟨_, x.cell y c h⟩, e0.hok.fresh (Qx _), fun y c h => ?_, fun p hp => absurd (show p ∈ ([] : List (Addr × Obj)) from hp) (by simp), e0.hok.kept hk, ?_⟩
 ·exact name_of_addr x.apart (PySem.mem_of_lookup h1) (PySem.mem_of_lookup h2)
 ·have hy : scope.names.lookup y = some .cell \/ scope.names.lookup y = some .free := hy;rcases hy with hy | hy
  ·exact zlj hy
  ·exact absurd rfl (S.nofree _ (PySem.mem_of_lookup hy))
 ·exact Qu (x.above y c (PySem.mem_of_lookup h))
 ·have hi : i < vs.length := by
   unfold qM at h2;by_cases hi : i < vs.length
   ·exact hi
   ·rw [List.getElem?_append_right (by simpa using hi)] at h2;rw [List.getElem?_replicate] at h2;split at h2 <;> cases h2
  have ha : vs[i]? = some v := by
   unfold qM at h2;rw [List.getElem?_append_left (by simpa using hi), Q8] at h2;cases e : vs[i]? with
   | none => rw [e] at h2; cases h2
   | some a => rw [e] at h2; cases h2; rfl
  obtain ⟨u, hu, rv⟩ := r.get ha;have hp : ps[i]? = some y := by
   rw [<- S.pre, List.getElem?_take_of_lt (by lia)]; exact h1
  have ndP : ps.Nodup := by rw [<- S.pre]; exact S.nd.sublist (List.take_sublist _ _)
  refine ⟨u, rv, ?_⟩;rcases S.par y (Q6 hp) with k | k
  ·exact .inl ⟨k, zgp ndP hp hu k⟩
  ·obtain ⟨c, e⟩ := zlj (n := s.heap.objs.size + 1) k;refine .inr ⟨.inl k, c, e, ?_⟩;have q := x.cell y c e;rw [zgr ndP hp hu (by show scope.names.lookup y ≠ _; rw [k]; decide)] at q;exact q
 ·exact e0.hok.fresh (Qu (x.above y c (PySem.mem_of_lookup h)))
 ·unfold qM;show _ = N.length;rw [Ql, Qj, List.length_replicate];lia
theorem zxj {CX : CXT} {P : Program} {w : World} {K : PySem.W.Frag} {mg : Str -> Option Value} {base : Heap} {k : Nat} {f : Addr} {name qual : Str} {params : Arguments} {body : List Stmt} {scope : Scope} {dV kV doc pm cdv ct oc : Value} {an od : Option Addr}
  {osl : Array (Option Value)} {N ps : List Str} {sp : Sp} (lk : K.lookup f = some ⟨oc, od, .func (PySem.W.fnOf name qual params body scope dV kV doc pm an cdv ct), osl⟩) (hcd : PySem.W.codeIn K cdv qual = true) (S : zR N ps scope)
  (len : ∀ vs H Q E, sp vs H Q E -> vs.length = ps.length)
  (hbody : ∀ (A : Around) (outer : List Env) (s : Shared) (H : Hp) (vs : List V) (Q : VK) (E : XK), Room k (A.deeper (envOfC qual scope s.heap.objs.size f cdv)) -> sp vs H Q E ->
   ∃ t, PSs (xU CX P w K mg base N qual scope f cdv A outer s H E) body t /\ t { nx := fun _ H' => Q .non H', rt := Q } (qM N vs) H) :
  v9 P w K mg base CX (k + 1) f (PySem.W.fnOf name qual params body scope dV kV doc pm an cdv ct) ps sp := by
 refine ⟨len, fun A outer s H args us vs Q E hr e0 hb r hsp => ?_⟩;have hl := len _ _ _ _ hsp;have KX : K.In s.heap := e0.mod.kin.keeps fun b o e => (e0.bs b o e).1;have lim : s.heap.NoLimit := e0.mod.nolimit.keeps fun b o e => (e0.bs b o e).1;have hkind : ∀ y ∈ ps.zip us, scope.names.lookup y.1 = some .local \/ (scope.names.lookup y.1 = some .cell /\ ((cellsFrom (s.heap.objs.size + 1) scope.names []).lookup y.1).isSome = true) := fun ⟨n, v⟩ hy => by
  rcases S.par n (List.of_mem_zip hy).1 with q | q
  ·exact .inl q
  ·exact .inr ⟨q, PySem.W.cellsFrom_some _ _ _ (.inl q)⟩
 refine codeAny_call_function hr.depth (KX _ _ lk) rfl S.co S.gen rfl (PySem.W.codeRec_of KX hcd) (hb _ _ _ _ ?_);refine wpAny_newFunctionEnv_cells S.kind hkind fun env he s1 x => ?_;subst he;refine ⟨lim.keeps x.toInCall.keep, codeAny_func ?_⟩;obtain ⟨t, ht, hq⟩ := hbody A outer s H vs Q E (hr.deeper _) hsp;have I : Inv (xU CX P w K mg base N qual scope f cdv A outer s H E) [] (qM N vs) H s1 := zgh S hr.hd e0 hl r x;refine wpAny_mono (ht [] s1 (qM N vs) H _ I hq) (fun fl s' hs => ?_) fun e s' hs => hs;have fin : ∀ {σ' : St} {H' : Hp} {v : V} {u : Value}, Inv (xU CX P w K mg base N qual scope f cdv A outer s H E) [] σ' H' s' -> RelV v u -> Q v H' -> CE outer P w H s Q u s' :=
  fun {σ' H' v u} J rv q => ⟨v, H', J.os, J.bare, J.base, J.hok, rv, q⟩
 cases fl with
 | ret u =>
  obtain ⟨v, σ', H', J, rv, q⟩ := hs;exact fin J rv q
 | next =>
  obtain ⟨σ', H', J, q⟩ := hs;exact fin (v := V.non) (u := Value.none) J rfl q
 | brk =>
  obtain ⟨_, _, _, q⟩ := hs;exact False.elim q
 | cont =>
  obtain ⟨_, _, _, q⟩ := hs;exact False.elim q
section
variable {X : Cx} {x : Str} {p pos : Pos} {e : Expr} {es : List Expr} {t : TA} {id T : String} {r : List V -> Hp -> VK -> Prop}
def tCB (r : List V -> Hp -> VK -> Prop) (t : TA) : TE := fun σ H Q => t σ H fun vs H1 => r vs H1 Q
theorem zM (hc : vK X (.builtin id) r) (hg : Gl X x) (hm : X.mg x = none) (hv : bootBuiltins x = some (.builtin id)) (ha : PA X (e :: es) t) (hn : x ≠ "__name__" := by decide) (hdb : (x == ("__debug__" : Str)) = false := by decide)
  (he : starEach (e :: es) X.env = (false, eval e X.env) :: starEach es X.env := by rfl) (hpl : (backTo pos (starEach es X.env)).any (·.1) = false := by rfl) : PE X (.Call (.Name x p) (e :: es) [] pos) (tCB r t) := by
 intro pins s σ H Q I h;refine wpAny_Call_Name_kw (zaf I hg hm hv ?_ hn hdb);exact PyProof.Rows.callWith_builtin1 (thn (ha pos pins s σ H _ I h) fun us s1 ⟨vs, H1, I1, r1, q1⟩ => hc pins s1 σ H1 vs us Q I1 r1 q1) he hpl
theorem yG (hc : vK X (.type T) r) (hg : Gl X x) (hm : X.mg x = none) (hv : bootBuiltins x = some (.type T)) (ha : PA X (e :: es) t) (hn : x ≠ "__name__" := by decide) (hdb : (x == ("__debug__" : Str)) = false := by decide)
  (he : starEach (e :: es) X.env = (false, eval e X.env) :: starEach es X.env := by rfl) (hpl : (backTo pos (starEach es X.env)).any (·.1) = false := by rfl) : PE X (.Call (.Name x p) (e :: es) [] pos) (tCB r t) := by
 intro pins s σ H Q I h;refine wpAny_Call_Name_kw (zaf I hg hm hv ?_ hn hdb);exact PyProof.Rows.callWith_type1 (thn (ha pos pins s σ H _ I h) fun us s1 ⟨vs, H1, I1, r1, q1⟩ => hc pins s1 σ H1 vs us Q I1 r1 q1) he hpl
end
end L2
namespace HT
open PySem PyProof.Rows
section
open PySem.SeqAt
open PySem.AutoSeq1 (wpAny_loadPart')
open PySem.MeetsSeq PySem.MeetsSeq2 PySem.MeetsSeq3
end
section
variable {prog : Program} {w : World} {A : Around} {E : Value -> Shared -> Prop} {s : Shared}
theorem cat_tup {t b : Addr} {vs ws : List Value} {Q : Value -> Shared -> Prop} (ht : IsTup s.heap t vs.toArray) (hb : IsTup s.heap b ws.toArray) (hv : vs ≠ [])
  (h1 : ws = [] -> Q (.ref t) s) (h2 : ws ≠ [] -> Q (.ref s.heap.objs.size) { s with heap := s.heap.push { cls := .type "tuple", data := .seq (vs ++ ws).toArray } })
  (hsz : vs.length + ws.length <= sizeLine) : wpAny (model prog w) A (binaryOp .Add (.ref t) (.ref b)) Q E s := by
 obtain ⟨⟨cls, dd, data, sl⟩, ho, hc, n, hd⟩ := id ht;obtain ⟨⟨cls2, dd2, data2, sl2⟩, ho2, hc2, n2, hd2⟩ := id hb;simp only at hc hd hc2 hd2;subst hc hd hc2 hd2;have e : vs.toArray ++ ws.toArray = (vs ++ ws).toArray := by simp
 by_cases hw : ws = []
 ·exact concat_meets ⟨_, ho, rfl⟩ ⟨_, ho2, rfl⟩ noFill_tuple_add seq_tuple_add PySem.F.slot_tuple_add PySem.F.entry_tuple_add (PySem.F.args_tuple_add_2 _ _)
   (tuple_addW1 t b vs.toArray ws.toArray n n2 dd dd2 sl sl2 (by simpa using hv) (by simp [hw])) ⟨ho, ho2, h1 hw⟩
 ·refine concat_meets ⟨_, ho, rfl⟩ ⟨_, ho2, rfl⟩ noFill_tuple_add seq_tuple_add PySem.F.slot_tuple_add PySem.F.entry_tuple_add (PySem.F.args_tuple_add_2 _ _)
   (tuple_addW2 t b vs.toArray ws.toArray n n2 dd dd2 sl sl2 (by simpa using hv) (by simpa using hw) (by rw [Q4, Q4]; exact hsz)) ⟨ho, ho2, ?_⟩
  rw [e];exact h2 hw
def sIx (n d : Nat) : Option Int -> Nat
 | none => d
 | some v => if v < 0 then (v + (n : Int)).toNat else min v.toNat n
theorem sIx_nat (n d k : Nat) : sIx n d (some (k : Int)) = min k n := by
 show (if (k : Int) < 0 then ((k : Int) + (n : Int)).toNat else min (k : Int).toNat n) = min k n;rw [if_neg (by lia), Jx]
end
end HT
namespace L2
open PySem PySem.Spec PyProof.Rows
abbrev TO := St -> Hp -> (Option Int -> Hp -> Prop) -> Prop
def PO (X : Cx) (e : Option Expr) (t : TO) : Prop :=
 ∀ (pins : List (Addr × Obj)) (s : Shared) (σ : St) (H : Hp) (Q : Option Int -> Hp -> Prop), Inv X pins σ H s -> t σ H Q ->
  wpAny (model X.prog X.w) X.A (evalPart e X.env) (fun u s' => ∃ o H', Inv X pins σ H' s' /\ IsPart u o /\ Q o H') X.xe s
def zxw : TO := fun _ H Q => Q none H
def zGc (t : TE) : TO := fun σ H Q => t σ H fun x H1 => ∃ i, x = .int i /\ Q (some i) H1
theorem zmp {ns : List Int} : ∀ {us : List Value}, Vals (ns.map V.int) us -> IntsAre us ns := by
 induction ns with
 | nil => intro us r; rw [List.map_nil] at r; cases r; exact .nil
 | cons n ns ih =>
  intro us r;rw [Jq] at r;cases r with
  | cons r1 r2 =>
   obtain ⟨t, e⟩ := r1;subst e;exact .cons n t (ih r2)
section
variable {X : Cx} {e : Expr} {te : TE} {lo hi : Option Expr} {tl th : TO} {pos p2 : Pos}
theorem qF : PO X none zxw := by
 intro pins s σ H Q I h;rw [evalPart_none];exact Qr ⟨none, H, I, .none, h⟩
theorem wJ (h : PE X e te) : PO X (some e) (zGc te) := by
 intro pins s σ H Q I hw;rw [evalPart_some];refine thn (h pins s σ H _ I hw) fun u s1 ⟨x, H1, I1, r1, q1⟩ => ?_;obtain ⟨i, rfl, q⟩ := q1;obtain ⟨t, rfl⟩ := r1;exact ⟨some i, H1, I1, .int i t, q⟩
def SlR (X : Cx) (r : V -> Option Int -> Option Int -> Hp -> VK -> Prop) : Prop :=
 ∀ (pins : List (Addr × Obj)) (s : Shared) (σ : St) (H : Hp) (x : V) (v vl vu : Value) (lo hi : Option Int) (sl : Addr) (Q : VK), Inv X pins σ H s -> RelV x v -> s.heap.IsSliceOf sl vl vu .none -> IsPart vl lo -> IsPart vu hi -> r x lo hi H Q ->
  ∃ T id, typeLookup (.type T) "__getitem__" = pure (some (.builtin id)) /\ s.TypeIs v T /\ wpAny (model X.prog X.w) X.A (getItem v (.ref sl)) (EP X pins σ Q) X.xe s
def tSl (r : V -> Option Int -> Option Int -> Hp -> VK -> Prop) (te : TE) (tl th : TO) : TE := fun σ H Q => te σ H fun x H1 => tl σ H1 fun l H2 => th σ H2 fun u H3 => r x l u H3 Q
theorem wP {r : V -> Option Int -> Option Int -> Hp -> VK -> Prop} (hr : SlR X r) (he : PE X e te) (hl : PO X lo tl) (hu : PO X hi th) : PE X (.Subscript e (.Slice lo hi none p2) pos) (tSl r te tl th) := by
 intro pins s σ H Q I h;refine Subscript_ (thn (he pins s σ H _ I h) fun v s1 ⟨x, H1, I1, r1, q1⟩ => ?_);refine wpAny_Slice (thn (hl pins s1 σ H1 _ I1 q1) fun vl s2 ⟨l, H2, I2, pl, q2⟩ => thn (hu pins s2 σ H2 _ I2 q2) fun vu s3 ⟨u, H3, I3, pu, q3⟩ => ?_);rw [evalPart_none];refine Qr ?_;have I4 : Inv X pins σ H3 { s3 with heap := s3.heap.push { cls := .type "slice", data := .fields #[vl, vu, .none] } } := I3.kept (t' := s3.toks) fun b ob q => Qz _ q;obtain ⟨T, id, hT, ht, hg⟩ := hr pins { s3 with heap := s3.heap.push { cls := .type "slice", data := .fields #[vl, vu, .none] } } σ H3 x v vl vu l u s3.heap.objs.size Q I4 r1 (Heap.IsSliceOf.new ..) pl pu q3;show wpAny (model X.prog X.w) X.A (subscriptTail e (.Slice lo hi none p2) v (.ref s3.heap.objs.size)) (EP X pins σ Q) X.xe { s3 with heap := s3.heap.push { cls := .type "slice", data := .fields #[vl, vu, .none] } };exact tail_any (ops := [.ref s3.heap.objs.size, v]) ht hT hg (by with_unfolding_all rfl)
def zhy (xs : List V) (lo hi : Option Int) : List V := (xs.drop (HT.sIx xs.length 0 lo)).take (HT.sIx xs.length xs.length hi - HT.sIx xs.length 0 lo)
theorem zjr (xs : List V) (lo hi : Option Int) : (zhy xs lo hi).length <= xs.length := by
 unfold zhy;rw [Jm, List.length_drop];lia
def zGv (K : PySem.W.Frag) : R2 := fun x y H Q => ∃ a b xs ys, x = .ref a /\ y = .ref b /\ SqT K H a xs /\ SqT K H b ys /\ xs ≠ [] /\ xs.length + ys.length <= sizeLine /\
 (ys = [] -> Q (.ref a) H) /\ (ys ≠ [] -> ∀ p, H p = none -> Q (.ref p) (upd H p (.tup (xs ++ ys))))
theorem Vals.nil_iff {xs : List V} {us : List Value} (r : Vals xs us) : us = [] ↔ xs = [] := by
 cases r with
 | nil => simp
 | cons _ _ => simp
theorem zoo : OpR X (binaryOp .Add) (zGv X.K) := by
 intro pins s σ H x y v u Q I rx ry h;obtain ⟨a, b, xs, ys, rfl, rfl, ha, hb, hx, hz, q1, q2⟩ := h;cases rx
 cases ry
 obtain ⟨its, r1, p1, _⟩ := I.tuple ha;obtain ⟨its2, r2, p2, _⟩ := I.tuple hb;refine HT.cat_tup p1 p2 (fun z => hx (r1.nil_iff.mp z)) (fun z => ⟨.ref a, H, I, rfl, q1 (r2.nil_iff.mp z)⟩) (fun z => ?_) (by rw [<- r1.length, <- r2.length]; exact hz);refine ⟨.ref s.heap.objs.size, _, I.laid (t' := s.toks) (o := .tup (xs ++ ys)) (fun b ob q => Qz _ q) (Qx _) ?_, rfl, q2 (fun w => z (r2.nil_iff.mpr w)) _ (I.hok.fresh (Qx _))⟩;exact ⟨by rw [Ql]; exact hz, _, r1.append r2, IsTup.new _ _⟩
end
def ixN (n : Nat) (i : Int) : Option Nat := if 0 <= i then (if i < n then some i.toNat else none) else if -(n : Int) <= i then some (i + n).toNat else none
def atI {α : Type} (xs : List α) (i : Int) : Option α := (ixN xs.length i).bind fun j => xs[j]?
theorem zoy {n : Nat} {i : Int} {j : Nat} (h : ixN n i = some j) : seqIndex? i n = some j /\ j < n /\ -(n : Int) <= i /\ i < n := by
 unfold ixN at h;by_cases h0 : 0 <= i
 ·rw [if_pos h0] at h;by_cases h1 : i < n
  ·rw [if_pos h1] at h;have e : i.toNat = j := Option.some.inj h;exact ⟨by rw [seqIndex_of h0 h1, e], by lia, by lia, h1⟩
  ·rw [if_neg h1] at h; cases h
 ·rw [if_neg h0] at h;by_cases h1 : -(n : Int) <= i
  ·rw [if_pos h1] at h;have e : (i + n).toNat = j := Option.some.inj h;exact ⟨by rw [seqIndex_neg (by lia) h1, e], by lia, h1, by lia⟩
  ·rw [if_neg h1] at h; cases h
theorem zia {α : Type} {xs : List α} {i : Int} {v : α} (h : atI xs i = some v) : ∃ j, seqIndex? i xs.length = some j /\ xs[j]? = some v /\ j < xs.length /\ -(xs.length : Int) <= i /\ i < xs.length := by
 unfold atI at h;cases e : ixN xs.length i with
 | none => rw [e] at h; cases h
 | some j =>
  rw [e] at h;obtain ⟨h1, h2, h3, h4⟩ := zoy e;exact ⟨j, h1, h, h2, h3, h4⟩
theorem zJ {α : Type} {xs : List α} {j : Nat} {v : α} (h : xs[j]? = some v) : atI xs (j : Int) = some v := by
 have hj : j < xs.length := (Qn.mp h).1;have e : ixN xs.length (j : Int) = some j := by
  unfold ixN;rw [if_pos (by lia), if_pos (by lia)]; simp
 unfold atI; rw [e]; exact h
def zBc (b : Expr) : Prop := ∀ o i, subscripted b false o i = operate [o, i] (getItem o i)
def IxR (X : Cx) (r : R2) : Prop :=
 ∀ (value slice : Expr) (pins : List (Addr × Obj)) (s : Shared) (σ : St) (H : Hp) (x y : V) (v u : Value) (Q : VK), Inv X pins σ H s -> RelV x v -> RelV y u -> r x y H Q ->
  subscripted slice false v u = operate [v, u] (getItem v u) -> wpAny (model X.prog X.w) X.A (subscriptTail value slice v u) (EP X pins σ Q) X.xe s
def MtR (X : Cx) (id : String) (r : V -> List V -> Hp -> VK -> Prop) : Prop :=
 ∀ (pins : List (Addr × Obj)) (s : Shared) (σ : St) (H : Hp) (x : V) (xs : List V) (v : Value) (us : List Value) (Q : VK), Inv X pins σ H s -> RelV x v -> Vals xs us -> r x xs H Q ->
  wpAny (model X.prog X.w) X.A (call (.builtin id) (v :: us)) (EP X pins σ Q) X.xe s
section
variable {X : Cx} {a b : Expr} {ta tb : TE} {pos : Pos}
theorem zT {r : R2} (hr : IxR X r) (ha : PE X a ta) (hb : PE X b tb) (hs : zBc b) : PE X (.Subscript a b pos) (tOp r ta tb) := by
 intro pins s σ H Q I h;exact Subscript_ (zFq ha hb I h fun v u s2 x y H2 I2 rx ry q => hr a b pins s2 σ H2 x y v u Q I2 rx ry q (hs _ _))
def zIa (K : PySem.W.Frag) : R2 := fun x y H Q => ∃ p xs i v, x = .ref p /\ y = .int i /\ SqL K H p xs /\ atI xs i = some v /\ Q v H
def gG (K : PySem.W.Frag) : R2 := fun x y H Q => ∃ p xs i v, x = .ref p /\ y = .int i /\ SqT K H p xs /\ atI xs i = some v /\ Q v H
def zIw : R2 := fun x y H Q => ∃ z i c, x = .str z /\ y = .int i /\ z.length <= sizeLine /\ atI z.cps.toList i = some c /\ Q (.str ⟨#[c]⟩) H
theorem ix_list : IxR X (zIa X.K) := by
 intro value slice pins s σ H x y v u Q I rx ry h hs;obtain ⟨p, xs, i, z, rfl, rfl, hq, he, q⟩ := h;cases rx
 obtain ⟨t, rfl⟩ := ry;obtain ⟨its, r, pl, hz⟩ := I.list hq;obtain ⟨j, h1, h2, h3, h4, h5⟩ := zia he;obtain ⟨w, ew, rw'⟩ := r.get h2;have hl := r.length;have hn := zcv;have fin : EP X pins σ Q w s := ⟨z, H, I, rw', q⟩;by_cases h0 : 0 <= i
 ·have hj : i.toNat = j := by
   rw [seqIndex_of h0 h5] at h1;exact Option.some.inj h1
  exact item_listR pl.isList h0 (by lia) (by rw [hj]; simpa using ew) fin hs
 ·have hj : (i + (its.toArray.size : Int)).toNat = j := by
   rw [seqIndex_neg (by lia) h4] at h1;rw [Q4, <- hl];exact Option.some.inj h1
  exact subscriptTail_builtinR (x := w) pl.isList.typeIs slot_list_getitem.lookup
   (wpAny_getItem_list_neg (Q := fun r s' => r = w /\ EP X pins σ Q r s') pl.isList (by lia) (by rw [Q4] <;> lia) (by lia) (by rw [hj]; simpa using ew) ⟨rfl, fin⟩) hs
theorem ix_tup : IxR X (gG X.K) := by
 intro value slice pins s σ H x y v u Q I rx ry h hs;obtain ⟨p, xs, i, z, rfl, rfl, hq, he, q⟩ := h;cases rx
 obtain ⟨t, rfl⟩ := ry;obtain ⟨its, r, pl, hz⟩ := I.tuple hq;obtain ⟨j, h1, h2, h3, h4, h5⟩ := zia he;obtain ⟨w, ew, rw'⟩ := r.get h2;have hl := r.length;have hn := zcv;have fin : EP X pins σ Q w s := ⟨z, H, I, rw', q⟩;exact subscriptTail_builtinR (x := w) pl.typeIs slot_tuple_getitem.lookup
  (getItem_tuple (j := j) (Q := fun r s' => r = w /\ EP X pins σ Q r s') pl (by lia) (by lia) (by rw [Q4, <- hl]; exact h1) (by simpa using ew) ⟨rfl, fin⟩) hs
theorem zwp : IxR X zIw := by
 intro value slice pins s σ H x y v u Q I rx ry h hs;obtain ⟨z, i, c, rfl, rfl, hz, he, q⟩ := h;obtain ⟨t, rfl⟩ := rx;obtain ⟨t', rfl⟩ := ry;obtain ⟨j, h1, h2, h3, h4, h5⟩ := zia he;have hl : z.cps.toList.length = z.length := by simp [Str.length]
 rw [hl] at h1 h4 h5;have hn := zcv;exact tail_any (typeIs_str s z t) slot_str_getitem.lookup (getItem_str (c := c) (by
  have e1 : decide (i < -(2 ^ 63 : Int)) = false := Qv (by lia);have e2 : decide (i >= 2 ^ 63) = false := Qv (by lia);rw [e1, e2, Bool.or_false]) (by rw [h1]; simpa using h2) ⟨.str ⟨#[c]⟩, H, I.tok _, ⟨_, rfl⟩, q⟩) hs
theorem zmi (its : List Value) (n j : Nat) (u : Value) : Obj.mapSeq (·.setIfInBounds j u) { cls := .type "list", data := .seq its.toArray n } = { cls := .type "list", data := .seq (its.set j u).toArray n } := by
 simp [Obj.mapSeq]
theorem Inv.lst {pins : List (Addr × Obj)} {σ : St} {H : Hp} {s : Shared} {p : Addr} {xs : List V} (I : Inv X pins σ H s) (h : H p = some (.lst xs)) :
  ∃ (its : List Value) (n : Nat), Vals xs its /\ s.heap.get? p = some { cls := .type "list", data := .seq its.toArray n } /\ xs.length <= sizeLine := by
 obtain ⟨z, its, n, r, e⟩ := I.hok p _ h;exact ⟨its, n, r, e, z⟩
theorem Inv.lstUpd {pins : List (Addr × Obj)} {σ : St} {H : Hp} {s : Shared} {p : Addr} {xs ys : List V} {its its' : List Value} {n n' : Nat} {f : Obj -> Obj} (I : Inv X pins σ H s) (h : H p = some (.lst xs))
  (ho : s.heap.get? p = some { cls := .type "list", data := .seq its.toArray n }) (hf : f { cls := .type "list", data := .seq its.toArray n } = { cls := .type "list", data := .seq its'.toArray n' }) (r : Vals ys its') (hz : ys.length <= sizeLine) (t : Nat) :
  Inv X pins σ (upd H p (.lst ys)) { s with heap := s.heap.update p f, toks := t } := by
 have e : (s.heap.update p f).get? p = some { cls := .type "list", data := .seq its'.toArray n' } := by
  rw [Wz f ho (by rw [hf] <;> rfl), hf]
 refine I.write (x := p) (e := p) (by rw [h]; trivial) (.inl rfl) (fun b u hb q => (Jn _ _ (Ne.symm hb)).trans q) ⟨_, e⟩ ?_;exact ⟨hz, its', n', r, e⟩
def zGq : V -> V -> V -> Hp -> (Hp -> Prop) -> Prop := fun o i v H Q => ∃ p xs k j, o = .ref p /\ i = .int k /\ H p = some (.lst xs) /\ ixN xs.length k = some j /\ Q (upd H p (.lst (xs.set j v)))
theorem jF : zIk X zGq := by
 intro pins s σ H o i v ov iv u Q I ro ri rv h;obtain ⟨p, xs, k, j, rfl, rfl, hp, hj, q⟩ := h;cases ro
 obtain ⟨t, rfl⟩ := ri;obtain ⟨its, n, r, ho, hz⟩ := I.lst hp;obtain ⟨h1, h2, h3, h4⟩ := zoy hj;have hl := r.length;have hn := zcv;have I' : Inv X pins σ (upd H p (.lst (xs.set j v))) { s with heap := s.heap.update p (Obj.mapSeq (·.setIfInBounds j u)) } :=
  I.lstUpd hp ho (zmi its n j u) (r.set rv j) (by rw [List.length_set]; exact hz) s.toks
 by_cases h0 : 0 <= k
 ·have hk : k.toNat = j := by
   rw [seqIndex_of h0 h4] at h1;exact Option.some.inj h1
  exact PySem.W.ki_setAt ho h0 (by lia) (by rw [Q4, <- hl]; exact h4) (by rw [hk]; exact ⟨_, I', q⟩)
 ·have hk : (k + (its.toArray.size : Int)).toNat = j := by
   rw [seqIndex_neg (by lia) h3] at h1;rw [Q4, <- hl];exact Option.some.inj h1
  exact PySem.W.ki_setBack ho (by lia) (by rw [Q4, <- hl]; exact h3) (by lia) (by rw [hk]; exact ⟨_, I', q⟩)
theorem zgw (lo hi : Option Int) (n : Nat) : (sliceBounds lo hi none n).1 = ((HT.sIx n 0 lo : Nat) : Int) /\ (sliceBounds lo hi none n).2.1 = ((HT.sIx n n hi : Nat) : Int) /\ (sliceBounds lo hi none n).2.2 = 1 := by
 refine ⟨?_, ?_, rfl⟩
 ·cases lo with
  | none => simp [sliceBounds, HT.sIx]
  | some i =>
   simp only [sliceBounds, HT.sIx, Option.getD_none, show (1 : Int) > 0 by decide, if_true];by_cases h : i < 0
   ·simp only [h, if_true] <;> lia
   ·simp only [h, if_false] <;> lia
 ·cases hi with
  | none => simp [sliceBounds, HT.sIx]
  | some i =>
   simp only [sliceBounds, HT.sIx, Option.getD_none, show (1 : Int) > 0 by decide, if_true];by_cases h : i < 0
   ·simp only [h, if_true] <;> lia
   ·simp only [h, if_false] <;> lia
theorem zey (its : List Value) (lo hi : Option Int) : slicePick its.toArray lo hi none = ((its.drop (HT.sIx its.length 0 lo)).take (HT.sIx its.length its.length hi - HT.sIx its.length 0 lo)).toArray := by
 obtain ⟨h1, h2, h3⟩ := zgw lo hi its.toArray.size;unfold slicePick;rw [h1, h2, h3];simp only [sliceRange_one, pick_run, Q4] <;> rfl
def zHz (K : PySem.W.Frag) : V -> Option Int -> Option Int -> Hp -> VK -> Prop := fun x lo hi H Q => ∃ a xs, x = .ref a /\ SqL K H a xs /\ ∀ p, H p = none -> Q (.ref p) (upd H p (.lst (zhy xs lo hi)))
theorem zxz : SlR X (zHz X.K) := by
 intro pins s σ H x v vl vu lo hi sl Q I rx hs pl pu h;obtain ⟨a, xs, rfl, hx, q⟩ := h;cases rx
 obtain ⟨its, r, ht, hz⟩ := I.list hx;have hlen := r.length;refine ⟨"list", _, slot_list_getitem.lookup, ht.isList.typeIs, ?_⟩;refine wpAny_getItem_list_slice ht.isList hs pl pu .none (by simp) ?_ (by rw [Q4] <;> lia);rw [zey, <- hlen];refine ⟨.ref s.heap.objs.size, _, I.laid (t' := s.toks) (o := .lst (zhy xs lo hi)) (fun b ob q => Qz _ q) (Qx _) ?_, rfl, q _ (I.hok.fresh (Qx _))⟩;exact ⟨Qc (zjr xs lo hi) hz, _, 0, (r.drop (HT.sIx xs.length 0 lo)).take (HT.sIx xs.length xs.length hi - HT.sIx xs.length 0 lo), Qh _ rfl⟩
def k6 : V -> Bool
 | .non => true
 | .bl _ => true
 | .int _ => true
 | .str _ => true
 | _ => false
def eqV : V -> V -> Bool
 | .non, .non => true
 | .bl a, .bl b => a == b
 | .bl a, .int b => (if a then 1 else 0) == b
 | .int a, .bl b => a == (if b then 1 else 0)
 | .int a, .int b => a == b
 | .str a, .str b => a == b
 | _, _ => false
theorem zwx {A : Around} {s : Shared} {y x : V} {u v : Value} (ry : RelV y u) (rx : RelV x v) (fy : k6 y = true) (fx : k6 x = true) : SeqAt.EqAt A s u v (eqV y x) := by
 cases y with
 | non =>
  cases ry
  cases x with
  | non => cases rx; exact SeqAt.EqAt.same _
  | bl b => cases rx; exact SeqAt.EqAt.none_bool b
  | int b => obtain ⟨t, rfl⟩ := rx; exact SeqAt.EqAt.none_int b t
  | str b => obtain ⟨t, rfl⟩ := rx; exact SeqAt.EqAt.none_str b t
  | _ => exact absurd (show false = true from fx) Qs
 | bl a =>
  cases ry
  cases x with
  | non => cases rx; exact SeqAt.EqAt.bool_none a
  | bl b => cases rx; exact SeqAt.EqAt.bool_bool a b
  | int b => obtain ⟨t, rfl⟩ := rx; exact SeqAt.EqAt.bool_int a b t
  | str b => obtain ⟨t, rfl⟩ := rx; exact SeqAt.EqAt.bool_str a b t
  | _ => exact absurd (show false = true from fx) Qs
 | int a =>
  obtain ⟨t', rfl⟩ := ry;cases x with
  | non => cases rx; exact SeqAt.EqAt.int_none a t'
  | bl b => cases rx; exact SeqAt.EqAt.int_bool a t' b
  | int b => obtain ⟨t, rfl⟩ := rx; exact SeqAt.EqAt.int_int a t' b t
  | str b => obtain ⟨t, rfl⟩ := rx; exact SeqAt.EqAt.int_str a t' b t
  | _ => exact absurd (show false = true from fx) Qs
 | str a =>
  obtain ⟨t', rfl⟩ := ry;cases x with
  | non => cases rx; exact SeqAt.EqAt.str_none a t'
  | bl b => cases rx; exact SeqAt.EqAt.str_bool a t' b
  | int b => obtain ⟨t, rfl⟩ := rx; exact SeqAt.EqAt.str_int a t' b t
  | str b => obtain ⟨t, rfl⟩ := rx; exact SeqAt.EqAt.str_str a t' b t
  | _ => exact absurd (show false = true from fx) Qs
 | _ => exact absurd (show false = true from fy) Qs
def eqU (x : V) (u : Value) : Bool := match u with
 | .none => eqV .non x
 | .bool b => eqV (.bl b) x
 | .int i _ => eqV (.int i) x
 | .str z _ => eqV (.str z) x
 | _ => false
theorem zwv {x y : V} {u : Value} (r : RelV y u) (f : k6 y = true) : eqU x u = eqV y x := by
 cases y with
 | non => cases r; rfl
 | bl b => cases r; rfl
 | int i => obtain ⟨t, rfl⟩ := r; rfl
 | str z => obtain ⟨t, rfl⟩ := r; rfl
 | _ => exact absurd (show false = true from f) Qs
theorem zbg {x : V} : ∀ {xs : List V} {us : List Value}, Vals xs us -> xs.all k6 = true -> us.any (eqU x) = xs.any fun y => eqV y x
 | _, _, .nil, _ => rfl
 | y :: xs, u :: us, .cons r t, f => by
  rw [List.all_cons, Qm] at f;rw [Wh, Wh, zwv r f.1, zbg t f.2]
theorem kJ {A : Around} {s : Shared} {x : V} {v : Value} (rx : RelV x v) (fx : k6 x = true) : ∀ {xs : List V} {us : List Value}, Vals xs us -> xs.all k6 = true -> ∀ u ∈ us, SeqAt.EqAt A s u v (eqU x u)
 | _, _, .nil, _ => fun u hu => by cases hu
 | y :: xs, u :: us, .cons r t, f => fun u' hu => by
  rw [List.all_cons, Qm] at f;rcases Qy.mp hu with rfl | hu
  ·rw [zwv r f.1]; exact zwx r rx f.1 fx
  ·exact kJ rx fx t f.2 u' hu
def inV (x : V) (xs : List V) : Bool := xs.any fun y => eqV y x
def rIn (K : PySem.W.Frag) (neg : Bool) : R2 := fun x y H Q => ∃ p xs, y = .ref p /\ (SqL K H p xs \/ SqT K H p xs) /\ k6 x = true /\ xs.all k6 = true /\ Q (.bl (if neg then !inV x xs else inV x xs)) H
theorem qZ : OpR X (compareOp .In) (rIn X.K false) := by
 intro pins s σ H x y v u Q I rx ry h;obtain ⟨p, xs, rfl, hq, fx, fs, q⟩ := h;cases ry
 rcases hq with hq | hq
 ·obtain ⟨its, r, pl, hz⟩ := I.list hq;refine SeqAt.in_listAt (eqU x) pl.isList (fun w hw => kJ rx fx r fs w (by simpa using hw)) ⟨.bl _, H, I, rfl, ?_⟩;rw [show its.toArray.any (eqU x) = its.any (eqU x) by simp, zbg r fs];exact q
 ·obtain ⟨its, r, pl, hz⟩ := I.tuple hq;refine SeqAt.in_tupleAt (eqU x) pl (fun w hw => kJ rx fx r fs w (by simpa using hw)) ⟨.bl _, H, I, rfl, ?_⟩;rw [show its.toArray.any (eqU x) = its.any (eqU x) by simp, zbg r fs];exact q
theorem vL : OpR X (compareOp .NotIn) (rIn X.K true) := by
 intro pins s σ H x y v u Q I rx ry h;obtain ⟨p, xs, rfl, hq, fx, fs, q⟩ := h;cases ry
 rcases hq with hq | hq
 ·obtain ⟨its, r, pl, hz⟩ := I.list hq;refine SeqAt.notIn_listAt (eqU x) pl.isList (fun w hw => kJ rx fx r fs w (by simpa using hw)) ⟨.bl _, H, I, rfl, ?_⟩;rw [show its.toArray.any (eqU x) = its.any (eqU x) by simp, zbg r fs];exact q
 ·obtain ⟨its, r, pl, hz⟩ := I.tuple hq;refine SeqAt.notIn_tupleAt (eqU x) pl (fun w hw => kJ rx fx r fs w (by simpa using hw)) ⟨.bl _, H, I, rfl, ?_⟩;rw [show its.toArray.any (eqU x) = its.any (eqU x) by simp, zbg r fs];exact q
theorem zhc : vK X (.builtin "len") (fun xs H Q => ∃ p ys, xs = [.ref p] /\ (SqL X.K H p ys \/ SqT X.K H p ys) /\ Q (.int ys.length) H) := by
 intro pins s σ H xs us Q I r h;obtain ⟨p, ys, rfl, hq, q⟩ := h;obtain ⟨u, rfl, rx⟩ := zrt r;cases rx
 have hn := zcv;rcases hq with hq | hq
 ·obtain ⟨its, r', pl, hz⟩ := I.list hq;have hlen := r'.length;exact Calls.call_len_list pl.isList (by simp only [Q4] <;> lia) ⟨.int ys.length, H, I.tok _, ⟨s.toks + 1, by rw [Q4, hlen]⟩, q⟩
 ·obtain ⟨its, r', pl, hz⟩ := I.tuple hq;have hlen := r'.length;exact len_tuple pl (by simp only [Q4] <;> lia) ⟨.int ys.length, H, I.tok _, ⟨s.toks + 1, by rw [Q4, hlen]⟩, q⟩
theorem qA : vK X (.builtin "len") (fun xs H Q => ∃ z, xs = [.str z] /\ z.length <= sizeLine /\ Q (.int z.length) H) := by
 intro pins s σ H xs us Q I r h;obtain ⟨z, rfl, hz, q⟩ := h;obtain ⟨u, rfl, t, rfl⟩ := zrt r;have hn := zcv;exact len_str (by lia) ⟨.int z.length, H, I.tok _, ⟨_, rfl⟩, q⟩
theorem zfk : vK X (.type "tuple") (fun xs H Q => ∃ p ys, xs = [.ref p] /\ ((SqL X.K H p ys /\ ∀ l, H l = none -> Q (.ref l) (upd H l (.tup ys))) \/ (SqT X.K H p ys /\ Q (.ref p) H))) := by
 intro pins s σ H xs us Q I r h;obtain ⟨p, ys, rfl, h⟩ := h;obtain ⟨u, rfl, rx⟩ := zrt r;cases rx
 rcases h with ⟨hq, q⟩ | ⟨hq, q⟩
 ·obtain ⟨its, r', pl, hz⟩ := I.list hq;have hlen := r'.length;refine call_tuple_list pl.isList (fun h' kp => ?_) (by simp only [Q4] <;> lia);have I1 : Inv X pins σ H { s with heap := h' } := I.kept (t' := s.toks) kp;have I2 : Inv X pins σ (upd H h'.objs.size (.tup ys)) { s with heap := h'.push { cls := .type "tuple", data := .seq its.toArray } } :=
   I1.laid (t' := s.toks) (fun b o e => Qz _ e) (Qx _) (show ObjOk X.prog X.w _ _ _ (.tup ys) from ⟨hz, its, r', IsTup.new _ _⟩)
  exact ⟨.ref h'.objs.size, _, I2, rfl, q _ (I1.hok.fresh (Qx _))⟩
 ·obtain ⟨its, r', pl, hz⟩ := I.tuple hq;exact call_tuple_same pl ⟨.ref p, H, I, rfl, q⟩
def tyV (K : PySem.W.Frag) (T : String) (x : V) (H : Hp) : Prop := match x with
 | .str _ => T = "str"
 | .int _ => T = "int"
 | .ref p => (T = "list" /\ ∃ xs, SqL K H p xs) \/ (T = "tuple" /\ ∃ o, K.lookup p = some o /\ o.cls = .type "tuple" /\ o.dict = none) \/
   (T = "dict" /\ ((∃ kvs, H p = some (.dK kvs)) \/ ∃ kvs, H p = some (.dT kvs))) \/ (T = "set" /\ ∃ S n, H p = some (.set S n))
 | _ => False
theorem zCt {pins : List (Addr × Obj)} {σ : St} {H : Hp} {s : Shared} {T : String} {x : V} {v : Value} (I : Inv X pins σ H s) (r : RelV x v) (ty : tyV X.K T x H) :
  s.TypeIs v T /\ ∀ a, v = .ref a -> ∃ ob, s.heap.get? a = some ob /\ ob.dict = none := by
 cases x with
 | str z =>
  obtain ⟨t, rfl⟩ := r;cases (show T = "str" from ty)
  exact ⟨typeIs_str s z t, fun _ e => nomatch e⟩
 | int i =>
  obtain ⟨t, rfl⟩ := r;cases (show T = "int" from ty)
  exact ⟨typeIs_int s i t, fun _ e => nomatch e⟩
 | ref p =>
  cases r
  rcases ty with ⟨rfl, xs, hq⟩ | ⟨rfl, o, hk, hc, hd⟩ | ⟨rfl, hk⟩ | ⟨rfl, S, n, hk⟩
  ·obtain ⟨its, _, pl, _⟩ := I.list hq;refine ⟨pl.isList.typeIs, fun a e => ?_⟩;cases e
   obtain ⟨o, n, e, c, hd, _⟩ := pl;exact ⟨o, e, hd⟩
  ·refine ⟨⟨o, I.kIn p o hk, hc⟩, fun a e => ?_⟩;cases e
   exact ⟨o, I.kIn _ o hk, hd⟩
  ·have z : ∃ o, s.heap.get? p = some o /\ o.ExactDict := by
    rcases hk with ⟨kvs, hk⟩ | ⟨kvs, hk⟩
    ·obtain ⟨_, _, _, _, o, _, _, e, ex, _⟩ := I.hok p _ hk;exact ⟨o, e, ex⟩
    ·obtain ⟨_, _, _, _, o, _, _, e, ex, _⟩ := I.hok p _ hk;exact ⟨o, e, ex⟩
   obtain ⟨o, e, ex⟩ := z;refine ⟨⟨o, e, ex.1⟩, fun a e2 => ?_⟩;cases e2
   exact ⟨o, e, ex.2.1⟩
  ·obtain ⟨o, _, _, _, e, ex, _⟩ := I.hok p _ hk;refine ⟨⟨o, e, ex.1⟩, fun a e2 => ?_⟩;cases e2
   exact ⟨o, e, ex.2.1⟩
 | _ => exact False.elim ty
def tBM (K : PySem.W.Frag) (T : String) (r : V -> List V -> Hp -> VK -> Prop) (to : TE) (t : TA) : TE := fun σ H Q => to σ H fun x H1 => tyV K T x H1 /\ t σ H1 fun xs H2 => r x xs H2 Q
variable {o e : Expr} {es : List Expr} {to : TE} {t : TA} {name : Str} {apos cpos : Pos} {T id : String} {r : V -> List V -> Hp -> VK -> Prop}
theorem kS (pa : PlainAttrs T) (slot : Slot T name id) (hty : typeOf (.builtin id) = pure (.type "method_descriptor")) (hm : MtR X id r) (ho : PE X o to) (ha : PA X (e :: es) t)
  (hbase : attributeBase o name X.env (eval o X.env) = eval o X.env := by rfl)
  (hfew : ((backTo cpos (starEach (e :: es) X.env)).all (fun x => !x.1) && (backToKw cpos (keywordEach [] X.env)).all (fun x => x.1.isSome)
   && decide ((e :: es).length + ([] : List Keyword).length + (if ([] : List Keyword).isEmpty then 0 else 1) < 30)) = true := by rfl)
  (hline : (apos.endLine == cpos.line) = true := by rfl) (hs : starEach (e :: es) X.env = (false, eval e X.env) :: starEach es X.env := by rfl) (hplain : (backTo cpos (starEach es X.env)).any (·.1) = false := by rfl) :
  PE X (.Call (.Attribute o name apos) (e :: es) [] cpos) (tBM X.K T r to t) := by
 intro pins s σ H Q I h;refine wpAny_Call_method_late hbase hfew hline rfl (thn (ho pins s σ H _ I h) fun v s1 ⟨x, H1, I1, r1, ty, q1⟩ => ?_);obtain ⟨h1, h2⟩ := zCt I1 r1 ty;refine ⟨T, id, pa, slot, hty, h1, h2, ?_⟩;have hA := ha cpos pins s1 σ H1 _ I1 q1;rw [hs] at hA ⊢;refine Calls.callWith_builtin (by show (false || (backTo cpos (starEach es X.env)).any (·.1)) = false; rw [hplain] <;> rfl) (Calls.evalArgs_plain ?_);exact thn hA fun us s2 ⟨vs, H2, I2, r2, q2⟩ => hm pins s2 σ H2 x vs v us Q I2 r1 r2 q2
/- xs.append(e), list.index on a module's tuple .. are MtR facts of 06m -/
end
def MtM (X : Cx) (id : String) (r : V -> List V -> Hp -> VK -> Prop) : Prop :=
 ∀ (pins : List (Addr × Obj)) (s : Shared) (σ : St) (H : Hp) (x : V) (xs : List V) (v : Value) (us : List Value) (Q : VK), Inv X pins σ H s -> RelV x v -> Vals xs us -> r x xs H Q ->
  wpAny (model X.prog X.w) X.A (call (.builtin id) (v :: us)) (EP X pins σ Q) X.xe s
theorem Vals.one : ∀ {x : V} {us : List Value}, Vals [x] us -> ∃ u, us = [u] /\ RelV x u
 | _, _, .cons r .nil => ⟨_, rfl, r⟩
theorem Vals.two : ∀ {x y : V} {us : List Value}, Vals [x, y] us -> ∃ u v, us = [u, v] /\ RelV x u /\ RelV y v := by
 intro x y us h;cases h with
 | cons r h => cases h with
  | cons q h => cases h; exact ⟨_, _, rfl, r, q⟩
theorem Vals.zero : ∀ {us : List Value}, Vals [] us -> us = []
 | _, .nil => rfl
theorem Vals.rep {xs : List V} {us : List Value} (h : Vals xs us) : ∀ k : Nat, Vals (List.replicate k xs).flatten (List.replicate k us).flatten
 | 0 => .nil
 | k + 1 => by
  rw [Jb, Jb, List.flatten_cons, List.flatten_cons];exact Vals.append h (Vals.rep h k)
theorem zgj (its : List Value) : ∀ (k : Nat) (acc : List Value),
  List.foldl (fun x1 x2 => x1 ++ x2) acc.toArray (List.replicate k its.toArray) = (acc ++ (List.replicate k its).flatten).toArray
 | 0, acc => by simp
 | k + 1, acc => by
  have e : acc.toArray ++ its.toArray = (acc ++ its).toArray := by simp
  have e2 : (acc ++ its) ++ (List.replicate k its).flatten = acc ++ (List.replicate (k + 1) its).flatten := by
   rw [Jb, List.flatten_cons, Q9]
  rw [<- e2, <- zgj its k (acc ++ its), <- e, Jb, List.foldl_cons]
section
variable {X : Cx} {pins : List (Addr × Obj)} {σ : St} {H : Hp} {s : Shared} {l b : Addr} {xs ys zs : List V}
theorem Inv.lset {its its' : List Value} {n : Nat} {f : Array Value -> Array Value} {t' : Nat} (I : Inv X pins σ H s) (hH : H l = some (.lst xs))
  (e : s.heap.get? l = some { cls := .type "list", data := .seq its.toArray n }) (hf : f its.toArray = its'.toArray) (hv : Vals ys its') (hz : ys.length <= sizeLine) :
  Inv X pins σ (upd H l (.lst ys)) { s with heap := s.heap.update l (Obj.mapSeq f), toks := t' } := by
 have q := PySem.IsL.update e f;rw [hf] at q;refine I.write (x := l) (e := l) (by rw [hH]; exact trivial) (.inl rfl) (fun b' u hb hu => (Jn s.heap (Obj.mapSeq f) (Ne.symm hb)).trans hu) ⟨_, q⟩ ?_;exact ⟨hz, its', _, hv, q⟩
theorem Inv.lnew {its : List Value} {t' : Nat} (I : Inv X pins σ H s) (hv : Vals ys its) (hz : ys.length <= sizeLine) :
  Inv X pins σ (upd H s.heap.objs.size (.lst ys)) { s with heap := s.heap.push { cls := .type "list", data := .seq its.toArray }, toks := t' } :=
 I.laid (fun _ _ q => Qz _ q) (Qx _) ⟨hz, its, 0, hv, Qh _ rfl⟩
theorem Inv.fresh (I : Inv X pins σ H s) : H s.heap.objs.size = none := I.hok.fresh (Qx _)
theorem Inv.lstM (I : Inv X pins σ H s) (hH : H l = some (.lst xs)) : xs.length <= sizeLine /\ ∃ (its : List Value) (n : Nat), Vals xs its /\ xs.length = its.length /\ s.heap.get? l = some { cls := .type "list", data := .seq its.toArray n } := by
 obtain ⟨z, its, n, r, e⟩ := I.hok l _ hH;exact ⟨z, its, n, r, r.length, e⟩
end
section
variable {X : Cx}
def zyr : V -> List V -> Hp -> VK -> Prop := fun x vs H Q => ∃ l xs y, x = .ref l /\ vs = [y] /\ H l = some (.lst xs) /\ xs.length < sizeLine /\ Q .non (upd H l (.lst (xs ++ [y])))
theorem kW : MtM X "list.append" zyr := by
 intro pins s σ H x vs v us Q I rx rv h;obtain ⟨l, xs, y, rfl, rfl, hH, hz, q⟩ := h;cases rx
 obtain ⟨u, rfl, ru⟩ := rv.one;obtain ⟨z, its, n, r, hl, e⟩ := I.lstM hH;refine call_meets F.slot_list_append ⟨_, e, rfl⟩ F.entry_list_append (F.args_list_append_2 _ _) (PySem.list_append l its.toArray n u (by rw [Q4]; lia)) ⟨e, ?_⟩;refine ⟨.non, _, I.lset (its' := its ++ [u]) hH e (by simp) (r.append (.cons ru .nil)) ?_, rfl, q⟩;rw [Ql, List.length_singleton];lia
def zIx : R2 := fun x y H Q => ∃ l b xs zs, x = .ref l /\ y = .ref b /\ H l = some (.lst xs) /\ H b = some (.lst zs) /\ xs.length + zs.length <= sizeLine /\ ∀ p, H p = none -> Q (.ref p) (upd H p (.lst (xs ++ zs)))
theorem yZ : OpR X (binaryOp .Add) zIx := by
 intro pins s σ H x y v u Q I rx ry h;obtain ⟨l, b, xs, zs, rfl, rfl, hH, hB, hz, q⟩ := h;cases rx
 cases ry
 obtain ⟨z, its, n, r, hl, e⟩ := I.lstM hH;obtain ⟨z2, its2, n2, r2, hl2, e2⟩ := I.lstM hB;refine PySem.P.add_list e e2 ?_ (by rw [Q4, Q4]; lia);have ea : its.toArray ++ its2.toArray = (its ++ its2).toArray := by simp
 rw [ea];exact ⟨.ref _, _, I.lnew (t' := s.toks) (r.append r2) (by rw [Ql]; lia), rfl, q _ I.fresh⟩
theorem zzp {α : Type} (xs : List α) (k : Nat) : (List.replicate k xs).flatten.length = k * xs.length := by
 induction k with
 | zero => simp
 | succ k ih => rw [Jb, List.flatten_cons, Ql, ih, Nat.succ_mul, Nat.add_comm]
end
section
variable {prog : Program} {w : World} {A : Around} {E : Value -> Shared -> Prop} {s : Shared}
set_option maxRecDepth 100000 in
end
section
variable {X : Cx}
end
end L2
namespace Att
open PySem PySem.W PySem.Calls PyProof.Rows
theorem zck {P : Params} {h : Heap} : ∀ (ns : List Int) (vs : List Value), WellAll P h vs (ns.map WData.int) -> IntsAre vs ns := by
 intro ns
 induction ns with
 | nil =>
  intro vs w;rw [List.map_nil] at w;cases w
  exact .nil
 | cons n ns ih =>
  intro vs w;rw [Jq] at w;cases w with
  | cons a b =>
   cases a
   exact .cons _ _ (ih _ b)
theorem zpu {l : OpenLaw} {n : Nat} (hn : l.most = some n) {P : Params} {h : Heap} {args : List WData} {vals : List Value}
  (hpre : l.row.toRowW.claim.pre args = true) (hwl : WellAll P h vals args) :
  ∃ a vs ns, vals = [Value.ref a] /\ args = [WData.list (ns.map WData.int)] /\ h.get? a = some { cls := .type "list", data := .seq vs.toArray } /\ IntsAre vs ns /\ ns.length <= n := by
 have hsh : WShape.hasAll [] args [.list .int] = true := (pre_splitW hpre).1;have hc : l.pre.holds [] { args := args } = true := (pre_splitW hpre).2;obtain ⟨d, r, rfl, h1, h2⟩ := hasAllW_cons hsh;obtain rfl := hasAllW_nil h2;obtain ⟨xs, rfl, h3⟩ := hasW_list h1;obtain ⟨ns, rfl⟩ := items_int h3;have hlen : ns.length <= n := by
  unfold OpenLaw.pre at hc;have h4 : (WTm.not (.lt (.lit (.int (n : Int))) (.len (.arg 0)))).holds [] { args := [.list (ns.map .int)] } = true := by
   have h4 := (holds_andW hc).1;rw [hn] at h4;exact h4
  have h5 := condW_of h4 (w_not (w_lt w_lit (w_len_list (w_arg rfl))));rw [Qj] at h5;refine Nat.le_of_not_lt fun q => ?_;have q' : (n : Int) < ((ns.length : Nat) : Int) := by lia
  first
   | (rw [Qb q'] at h5; exact absurd h5 (by decide))
   | (simp at h5; lia)
 cases hwl with
 | cons w1 w2 =>
  cases w2
  cases w1 with
  | list ho hall => exact ⟨_, _, ns, rfl, rfl, ho, zck ns _ hall, hlen⟩
theorem zqc (l : OpenLaw) (args : List WData) : l.row.toRowW.claim.post args (.bool true) args = true :=
 postW_of (r := l.row.toRowW) (X := (true == true))
  (show WShape.has [] (.bool true) .bool = true by first | rfl | decide | simp [WShape.has, WShape.arms, WShape.armsAll])
  (show (WTm.eq .res (.lit (.bool true))).value [] { args := args, res := some (.bool true), after := args } = some (.bool (true == true)) from w_eq_bool (w_res rfl) w_lit) rfl
theorem attach_call {l : OpenLaw} {n : Nat} {q : Program} {loose : List Str} {XP : (Str -> Option Value) -> Heap -> Prop} {YP : World -> Heap -> Prop} {d : DefRec}
  (hn : l.most = some n) (hdf : d.params.defaults = [])
  (call : ∀ (w : World) (s₀ s₁ : Shared) (mg mb : Str -> Option Value) (fa : Addr) (o : Obj) (pm cd doc : Value) (a : Addr) (vs : List Value) (ns : List Int),
   Ground q loose [] XP w s₀ mg mb s₁.heap -> YP w s₁.heap ->
   s₁.heap.get? fa = some o -> o.data = .func (docDef d.name d.params d.body d.scope pm cd doc) -> s₁.heap.CodeRec cd d.name -> mg d.name = some (.ref fa) ->
   s₁.heap.get? a = some { cls := .type "list", data := .seq vs.toArray } -> IntsAre vs ns -> ns.length <= n -> s₁.gens = #[] ->
   codeAny (model l.prog w) callerA (.call (.ref fa) ⟨[.ref a], []⟩) (fun r s' => r = .ok (.ret (.bool true)) /\ OldK s₁.heap s'.heap /\ s'.os = s₁.os /\ AllBare s'.gens) s₁) :
  WalkO q loose XP YP l.row.toRowW d [] (fun f vs => PySem.call f vs) := by
 intro w s₀ s₁ mg mb G Y fa o pm cd doc dV kV ho hd hcd hD hmg hg args vals as hpre hlay hrd hwl hlo;obtain rfl : dV = .none := Dflts.none hD hdf;obtain rfl : kV = .none := Dflts.noKw hD;obtain ⟨a, vs, ns, rfl, rfl, hobj, hints, hlen⟩ := zpu hn hpre hwl;refine enter_call (codeAny_mono (call w s₀ s₁ mg mb fa o pm cd doc a vs ns G Y ho (fd_plain hd) hcd hmg hobj hints hlen hg) fun r s' hq => ?_);obtain ⟨rfl, h2, h3, h4⟩ := hq;exact ⟨.inl ⟨.bool true, .bool true, [], rfl, fun _ => rfl, .bool true, zqc l _, fun _ => ⟨List.Pairwise.nil, fun _ hm => (nomatch hm)⟩⟩, h2, h3, h4⟩
section
variable {prog : Program} {w : World} {A : Around} {E : Value -> Shared -> Prop} {s : Shared} {K : Frag}
end
end Att
namespace L2
open PySem PySem.Spec PyProof.Rows
theorem zfu : ∀ {vs : List Value} {ns : List Int}, IntsAre vs ns -> Vals (ns.map V.int) vs
 | _, _, .nil => .nil
 | _, _, .cons n t h => .cons ⟨t, rfl⟩ (zfu h)
def zFu (H : Hp) : Prop := ∀ b, H b = none \/ ∃ o xs, H b = some (.frz o (.lst xs))
theorem zui {P : Program} {w : World} {K : PySem.W.Frag} {mg mb : Str -> Option Value} {CX : CXT} {k : Nat} {fa a : Addr} {fd : FuncData} {x : Str} {sp : Sp} {s₁ : Shared} {vs : List Value} {ns : List Int}
  (KX : K.In s₁.heap) (hns : s₁.heap.Ns mainGlobals mg) (hb : s₁.heap.Ns builtinsNs mb) (hbb : ∀ x : Str, x ≠ "__name__" -> mb x = bootBuiltins x) (hlim : s₁.heap.NoLimit) (hg : s₁.gens = #[])
  (ha : s₁.heap.get? a = some { cls := .type "list", data := .seq vs.toArray }) (hi : IntsAre vs ns) (hl : ns.length <= sizeLine) (hr : Room k callerA)
  (F : ∀ base : Heap, K.In base -> base.Ns mainGlobals mg -> v9 P w K mg base CX k fa fd [x] sp) (hbind : ∀ (s : Shared) (u : Value), BindsTo s fd ⟨[u], []⟩ [(x, u)])
  (hsp : ∀ H : Hp, zFu H -> SqL K H a (ns.map V.int) -> sp [.ref a] H (fun v _ => v = .bl true) fun _ _ _ => False)
  (hCX : ∀ H e s', CX [] H s₁ (fun _ _ _ => False) e s' -> False) :
  codeAny (model P w) callerA (.call (.ref fa) ⟨[.ref a], []⟩) (fun r s' => r = .ok (.ret (.bool true)) /\ OldK s₁.heap s'.heap /\ s'.os = s₁.os /\ AllBare s'.gens) s₁ := by
 have rv := zfu hi;have lenV := hi.length;have core : ∀ H : Hp, zFu H -> SqL K H a (ns.map V.int) -> HOk P w H s₁.heap -> (∀ b, H b ≠ none -> b = a) -> (H a ≠ none -> K.lookup a = none) ->
   codeAny (model P w) callerA (.call (.ref fa) ⟨[.ref a], []⟩) (fun r s' => r = .ok (.ret (.bool true)) /\ OldK s₁.heap s'.heap /\ s'.os = s₁.os /\ AllBare s'.gens) s₁ := by
  intro H hO hS hok hA hK;have base_of : ∀ {b : Addr} {o : Obj}, s₁.heap.get? b = some o -> H b = none -> (zmq s₁.heap H).get? b = some o := fun e n => zun e n;have noA : ∀ {b : Addr} {o : Obj} {es : Array DictEntry} {ep : Nat}, s₁.heap.get? b = some o -> o.data = .dict es ep -> H b = none := fun {b o es ep} e d => by
   cases q : H b with
   | none => rfl
   | some u =>
    have e' : b = a := hA b (by rw [q]; simp);subst e';rw [ha] at e; cases e;have d' : Data.seq vs.toArray _ = Data.dict es ep := d;cases d'
  have nsK : ∀ {b : Addr} {m : Str -> Option Value}, s₁.heap.Ns b m -> (zmq s₁.heap H).Ns b m := fun {b m} ⟨o, es, ep, e, d, r⟩ => ⟨o, es, ep, base_of e (noA e d), d, r⟩;have hKb : K.In (zmq s₁.heap H) := fun b o e => base_of (KX b o e) (by
   cases q : H b with
   | none => rfl
   | some u =>
    have e' : b = a := hA b (by rw [q]; simp);subst e';rw [hK (by rw [q]; simp)] at e; cases e)
  have hM : Mod K mg (zmq s₁.heap H) := ⟨hKb, nsK hns, ⟨mb, nsK hb, hbb⟩, let ⟨mc, h1, h2⟩ := hlim; ⟨mc, nsK h1, h2⟩⟩;have e0 : Env0 P w K mg (zmq s₁.heap H) callerA [] s₁ H := ⟨rfl, hM, fun b o e => zzi e, Nat.le_of_eq (zqu _ _), trivial, fun b hb => absurd (show b ∈ ([] : List Addr) from hb) (by simp), hok, .of_eq hg⟩;refine codeAny_mono ((F _ hKb (nsK hns)).run callerA [] s₁ H ⟨[.ref a], []⟩ [.ref a] [.ref a] _ _ hr e0 (hbind s₁ (.ref a)) (.cons rfl .nil) (hsp H hO hS)) fun r s' h => ?_;cases r with
  | error e => exact (hCX H e s' h).elim
  | ok fl =>
   cases fl with
   | next => exact False.elim h
   | brk => exact False.elim h
   | cont => exact False.elim h
   | ret u =>
    obtain ⟨v, H', os, bare, un, hok', r', q⟩ := h;have q' : v = .bl true := q;subst q';obtain rfl : u = Value.bool true := r';refine ⟨rfl, OldK.of_keep fun b o e => ?_, os, bare⟩;cases q : H b with
    | none => exact un.keep b o e q (by intro z; exact absurd (show b ∈ ([] : List Addr) from z) (by simp)) (by simp)
    | some u =>
     rcases hO b with z | ⟨ob, xs, z⟩
     ·rw [q] at z; cases z
     ·have z2 := un.frzs b ob _ z;obtain ⟨e1, _⟩ := hok b _ z;obtain ⟨e2, _⟩ := hok' b _ z2;rw [e] at e1; cases e1;exact e2
 cases hk : K.lookup a with
 | some o =>
  have e := KX a o hk;rw [ha] at e;cases e
  refine core (fun _ => none) (fun _ => .inl rfl) (.inr ⟨_, vs.toArray, _, hk, rfl, rfl, rfl, by rw [Q4, lenV]; exact hl, by simpa using rv⟩) (fun b u z => by have z' : (none : Option HO) = some u := z; cases z') (fun b z => absurd rfl z) fun z => absurd rfl z
 | none =>
  refine core (fun b => if b = a then some (.frz { cls := .type "list", data := .seq vs.toArray } (.lst (ns.map V.int))) else none) (fun b => ?_) (.inl (.inr ⟨{ cls := .type "list", data := .seq vs.toArray }, if_pos rfl⟩)) (fun b u z => ?_) (fun b z => ?_) fun _ => hk
  ·by_cases hb : b = a
   ·exact .inr ⟨_, _, if_pos hb⟩
   ·exact .inl (if_neg hb)
  ·by_cases hb : b = a
   ·have z' := (if_pos hb).symm.trans z;cases z'
    subst hb;exact ⟨ha, by rw [Qj]; exact hl, vs, _, rv, ha⟩
   ·have z' := (if_neg hb).symm.trans z;cases z'
  ·by_cases hb : b = a
   ·exact hb
   ·exact absurd (if_neg hb) z
abbrev KOf {K : PySem.W.Frag} {h : Heap} (_ : K.In h) : PySem.W.Frag := K
theorem walk_of {l : PySem.W.OpenLaw} {n k : Nat} {q : Program} {loose : List Str} {XP : (Str -> Option Value) -> Heap -> Prop} {YP : World -> Heap -> Prop} {d : DefRec} {K : Params -> PySem.W.Frag} {CX : World -> CXT} {sp : World -> Sp} {x : Str}
  (hn : l.most = some n) (hn2 : n <= sizeLine) (hdf : d.params.defaults = []) (hr : Room k callerA)
  (hY : ∀ (w : World) (h : Heap), YP w h -> (K w.params).In h)
  (F : ∀ (w : World) (mg : Str -> Option Value) (fa : Addr) (h : Heap), (K w.params).In h -> h.Ns mainGlobals mg -> mg d.name = some (.ref fa) ->
   ∃ fd : FuncData, (∀ (s : Shared) (u : Value), BindsTo s fd ⟨[u], []⟩ [(x, u)]) /\
    ∀ base : Heap, (K w.params).In base -> base.Ns mainGlobals mg -> v9 l.prog w (K w.params) mg base (CX w) k fa fd [x] (sp w))
  (hsp : ∀ (w : World) (H : Hp) (a : Addr) (ns : List Int), ns.length <= n -> zFu H -> SqL (K w.params) H a (ns.map V.int) -> sp w [.ref a] H (fun v _ => v = .bl true) fun _ _ _ => False)
  (hCX : ∀ (w : World) (H : Hp) (s : Shared) (e : Value) (s' : Shared), CX w [] H s (fun _ _ _ => False) e s' -> False) :
  PySem.W.WalkO q loose XP YP l.row.toRowW d [] (fun f vs => PySem.call f vs) := by
 refine Att.attach_call hn hdf fun w s₀ s₁ mg mb fa o pm cd doc a vs ns G Y ho hd hcd hmg hobj hints hlen hg => ?_;have KX := hY w _ Y;obtain ⟨fd, hb, hF⟩ := F w mg fa _ KX G.T.g hmg;exact zui KX G.T.g G.T.b G.T.builtins G.T.nolimit hg hobj hints (Qc hlen hn2) hr hF hb (fun H hO hS => hsp w H a ns hlen hO hS) fun H e s' => hCX w H s₁ e s'
end L2
/- THE LAST THEOREM (shape; LID, My.* are yours):
   My.Adr: a structure of the addresses that your layer names (classes, functions); My.Txt K t: a structure (Prop) of the equations over K;
   My.txt_mk : {K} {implicit addresses ..} (e1 : nsIn K mainGlobals "law" = some (some (.ref f))) (e2 : K.lookup f = some ⟨oc, od, .func (fnOf "law" "law" params body scope dV kV doc pm an cdv ct), sl⟩) (e3 : codeIn K cdv "law" = true) .. : ∃ t, My.Txt K t
set_option maxRecDepth 100000 in
set_option maxHeartbeats 0 in
theorem PySem.Challenge.cw_LID_holds : PySem.Challenge.rw_LID.Holds := by
 w_on; o_law; k_head; (case hw => w_witness2)
 k_fill
 refine L2.walk_of (l := PySem.Challenge.rw_LID) (n := 63) (k := 40) (x := "script") (CX := fun w => ..) (sp := fun _ => My.sp_law) rfl (by decide) rfl ⟨rfl, by decide, by decide⟩ (fun w h Y => PySem.W.kIn_of Y) ?F ?S ?C;case F =>
  intro w mg fa h KX G hmg;have T : ∃ t, My.Txt (L2.KOf KX) t := by
   dsimp only [L2.KOf]                          -- K must stand as «<heap const> w.params» for k_is
   refine' My.txt_mk ?e1 ?e2 ?e3 ..
   (case e1 => PySem.W.k_is)                    -- in the order: a name -> its address -> its object -> its parts
   (case e2 => PySem.W.k_is)
   ..
  obtain ⟨t, T⟩ := T;have e0 := hmg.symm.trans (PySem.W.mg_of KX G T.law);cases e0                                       -- fa is the law's own address
  exact ⟨_, fun s u => .of_eq rfl, fun base kb nb => My.law_fn T kb nb⟩     -- if «.of_eq rfl» comes too early: refine' ⟨_, ?b, fun base kb nb => My.law_fn T kb nb⟩; exact fun s u => .of_eq rfl
 case S => exact fun w H a ns hl hO hS => ..
 case C => exact ..
(the tactic k_is has no namespace: write k_is) -/
namespace L2
open PySem PySem.Spec PyProof.Rows
def zbd (s : Stmt) (j : Nat) : Stmt := match s with
 | .ClassDef _ _ _ body _ _ _ _ _ _ _ => body.getD j (.Pass ⟨0, 0, 0, 0⟩)
 | _ => .Pass ⟨0, 0, 0, 0⟩
def wC (s : Stmt) : Arguments := match s with
 | .FunctionDef _ a _ _ _ _ _ _ _ _ => a
 | _ => { posonlyargs := [], args := [], vararg := none, kwonlyargs := [], kw_defaults := [], kwarg := none, defaults := [] }
def xJ (s : Stmt) : List Stmt := match s with
 | .FunctionDef _ _ b _ _ _ _ _ _ _ => b
 | _ => []
def zH (s : Stmt) : Scope := match s with
 | .FunctionDef _ _ _ _ _ _ sc _ _ _ => sc
 | _ => { kind := .function, names := [], isGenerator := false, isCoroutine := false }
abbrev CX0 : CXT := fun _ _ _ _ _ _ => False
abbrev E0 : XK := fun _ _ _ => False
theorem zBy {X : Cx} : jK CX0 X E0 := fun _ _ _ _ _ _ _ h => h.elim
structure Fun (K : PySem.W.Frag) (x qual : Str) (st : Stmt) (f : Addr) (fd : FuncData) : Prop where
 ex : ∃ (oc : Value) (od : Option Addr) (kV doc pm : Value) (an : Option Addr) (cdv ct : Value) (osl : Array (Option Value)),
  fd = PySem.W.fnOf x qual (wC st) (xJ st) (zH st) .none kV doc pm an cdv ct /\ K.lookup f = some ⟨oc, od, .func fd, osl⟩ /\ PySem.W.codeIn K cdv qual = true
 kp : PySem.W.keepIn K (.ref f) = true
section
variable {P : Program} {w : World} {K : PySem.W.Frag} {mg : Str -> Option Value} {base : Heap}
theorem Fun.ok {x qual : Str} {st : Stmt} {f : Addr} {fd : FuncData} {N ps : List Str} {k : Nat} {sp : Sp} (F : Fun K x qual st f fd) (S : zR N ps (zH st)) (len : ∀ vs H Q E, sp vs H Q E -> vs.length = ps.length)
  (hbody : ∀ (cdv : Value) (A : Around) (outer : List Env) (s : Shared) (H : Hp) (vs : List V) (Q : VK) (E : XK), Room k (A.deeper (envOfC qual (zH st) s.heap.objs.size f cdv)) -> sp vs H Q E ->
   ∃ t, PSs (xU CX0 P w K mg base N qual (zH st) f cdv A outer s H E).nox (xJ st) t /\ t { nx := fun _ H' => Q .non H', rt := Q } (qM N vs) H) : v9 P w K mg base CX0 (k + 1) f fd ps sp := by
 obtain ⟨oc, od, kV, doc, pm, an, cdv, ct, osl, rfl, lk, hcd⟩ := F.ex;refine zxj lk hcd S len fun A outer s H vs Q E hr hsp => ?_;obtain ⟨t, h, q⟩ := hbody cdv A outer s H vs Q E hr hsp;exact ⟨t, h.nox, q⟩
theorem Fun.binds {x qual : Str} {st : Stmt} {f : Addr} {fd : FuncData} {ps : List Str} (F : Fun K x qual st f fd)
  (h : ∀ (kV doc pm : Value) (an : Option Addr) (cdv ct : Value) (us : List Value), us.length = ps.length -> bindArgs (PySem.W.fnOf x qual (wC st) (xJ st) (zH st) .none kV doc pm an cdv ct) ⟨us, []⟩ = pure (ps.zip us)) : Binds K fd ps [] := by
 obtain ⟨oc, od, kV, doc, pm, an, cdv, ct, osl, rfl, lk, hcd⟩ := F.ex;exact .all (h kV doc pm an cdv ct)
theorem vC {x qual : Str} {st : Stmt} {f : Addr} {oc : Value} {od an : Option Addr} {osl : Array (Option Value)} {kV doc pm cdv ct : Value} (l : K.lookup f = some ⟨oc, od, .func (PySem.W.fnOf x qual (wC st) (xJ st) (zH st) .none kV doc pm an cdv ct), osl⟩)
  (c : PySem.W.codeIn K cdv qual = true) (k : PySem.W.keepIn K (.ref f) = true) : Fun K x qual st f (PySem.W.fnOf x qual (wC st) (xJ st) (zH st) .none kV doc pm an cdv ct) := ⟨⟨oc, od, kV, doc, pm, an, cdv, ct, osl, rfl, l, c⟩, k⟩
end
theorem zCg {A : Around} {k : Nat} (hr : Room k A) : A.units + 1 < cLine := Jv (Nat.add_le_add_left (by decide : 1 <= 64) _) hr.units
section
variable {X : Cx}
theorem pv (i : Nat) {x : Str} {pos : Pos} (hN : X.N[i]? = some x := by rfl) (hv : Vis X.env.scope x := by first | exact Or.inl rfl | exact Or.inr (Or.inl rfl) | exact Or.inr (Or.inr rfl)) (hd : (x == ("__debug__" : Str)) = false := by decide)
  (hcd : (x == ("__classdict__" : Str)) = false := by decide) : PE X (.Name x pos) (zex i) := zwj hN hv hd hcd
end
theorem yR {A B : Prop} (h : B) : if false = true then A else B := by
 rw [if_neg Qs];exact h
theorem xK {A B : Prop} (h : A) : if true = true then A else B := by
 rw [if_pos rfl];exact h
theorem zfi {c A B : Prop} [Decidable c] (h1 : c -> A) (h2 : ¬ c -> B) : if c then A else B := by
 by_cases h : c
 ·rw [if_pos h];exact h1 h
 ·rw [if_neg h];exact h2 h
theorem zmo {c A B : Prop} [Decidable c] (hc : c) (h : B) : if (!decide c) = true then A else B := by
 rw [Qb hc];exact yR h
def Same (H H' : Hp) : Prop := ∀ b o, H b = some o -> H' b = some o
theorem Same.refl (H : Hp) : Same H H := fun _ _ h => h
theorem Same.trans {H H1 H2 : Hp} (a : Same H H1) (b : Same H1 H2) : Same H H2 := fun c o h => b c o (a c o h)
theorem Same.seq {K : PySem.W.Frag} {H H' : Hp} {a : Addr} {xs : List V} (e : Same H H') (h : SqL K H a xs) : SqL K H' a xs := by
 rcases h with (h | ⟨o, h⟩) | h
 ·exact .inl (.inl (e _ _ h))
 ·exact .inl (.inr ⟨o, e _ _ h⟩)
 ·exact .inr h
def zsp (X : Cx) (ifs : List Expr) (t : TT) : Prop :=
 ∀ (pins : List (Addr × Obj)) (s : Shared) (σ : St) (H : Hp) (Q : Bool -> Hp -> Prop), Inv X pins σ H s -> t σ H Q ->
  wpAny (model X.prog X.w) X.A (forIn ifs true fun c r => if r = true then do
   let ok <- isTrue c X.env (eval c X.env)
   pure (ForInStep.yield ok) else pure (ForInStep.yield r)) (TP X pins σ Q) X.xe s
def zFi : TT := fun _ H Q => Q true H
theorem yX {X : Cx} : zsp X [] zFi := fun _ _ _ H _ I h => wpAny_tests_nil ⟨H, I, h⟩
theorem zkn {X : Cx} {c : Expr} {t : TT} (h : PT X c t) : zsp X [c] t := fun pins s σ H Q I hw => wpAny_tests_one (h pins s σ H Q I hw)
def kD (env : Env) : List (Str × NameKind) -> List (Str × Addr) -> List (Str × Addr)
 | [], cs => cs
 | (n, k) :: r, cs => kD env r (if (k == NameKind.free) = true then (n, (env.cells.lookup n).getD 0) :: cs else cs)
theorem zbu {env : Env} : ∀ (names : List (Str × NameKind)) (cs : List (Str × Addr)), (∀ x ∈ names, x.2 = .free -> ∃ c, env.cells.lookup x.1 = some c) ->
  (forIn names cs fun (x : Str × NameKind) (r : List (Str × Addr)) => (if (x.2 == NameKind.free) = true then do
   let a <- cellOf env x.1
   pure (ForInStep.yield ((x.1, a) :: r)) else pure (ForInStep.yield r) : Sem (ForInStep (List (Str × Addr))))) = pure (kD env names cs)
 | [], cs, _ => rfl
 | (n, k) :: r, cs, h => by
  rw [Wg];by_cases hk : (k == NameKind.free) = true
  ·obtain ⟨c, hc⟩ := h (n, k) Qg (by simpa using hk);have hc' : env.cells.lookup n = some c := hc;have e1 : cellOf env n = pure c := by unfold cellOf; rw [hc']
   simp only [hk, if_true, e1, pure_bind];rw [zbu r _ fun x hx => h x (Qk _ hx)];simp [kD, hk, hc']
  ·simp only [hk, pure_bind];rw [if_neg (by simp), pure_bind];dsimp only;rw [zbu r _ fun x hx => h x (Qk _ hx)];simp [kD, hk]
theorem gX {scope : Scope} {env : Env} (h : ∀ x ∈ scope.names, x.2 = .free -> ∃ c, env.cells.lookup x.1 = some c) : closureFor scope env = pure (kD env scope.names []) := by
 have e := zbu scope.names [] h;simp only [closureFor]
 first
  | (rw [e]; rfl)
  | (refine Eq.trans (congrArg (fun t => t >>= _) e) ?_; rfl)
  | (simp only [e]; rfl)
theorem jJ {env : Env} {x : Str} {c : Addr} : ∀ (names : List (Str × NameKind)) (cs : List (Str × Addr)), (∀ y ∈ names, y.2 = .free -> ∃ d, env.cells.lookup y.1 = some d) ->
  (kD env names cs).lookup x = some c -> cs.lookup x = some c \/ env.cells.lookup x = some c
 | [], cs, _, e => .inl e
 | (n, k) :: r, cs, h, e => by
  have e' : (kD env r (if (k == NameKind.free) = true then (n, (env.cells.lookup n).getD 0) :: cs else cs)).lookup x = some c := e;rcases jJ r _ (fun y hy => h y (Qk _ hy)) e' with q | q
  ·by_cases hk : (k == NameKind.free) = true
   ·rw [if_pos hk] at q;obtain ⟨d, hd⟩ := h (n, k) Qg (by simpa using hk);have hd' : env.cells.lookup n = some d := hd;rw [Q7] at q;by_cases hx : (x == n) = true
    ·rw [hx] at q;have ex : x = n := by simpa using hx
     subst ex;rw [hd'] at q;simp at q;exact .inr (by rw [hd', q])
    ·simp only [hx] at q;exact .inl q
   ·rw [if_neg hk] at q;exact .inl q
  ·exact .inr q
theorem zgl {env : Env} {x : Str} : ∀ (names : List (Str × NameKind)) (cs : List (Str × Addr)), (∃ c, cs.lookup x = some c) -> ∃ c, (kD env names cs).lookup x = some c
 | [], cs, h => h
 | (n, k) :: r, cs, h => by
  refine zgl r _ ?_;by_cases hk : (k == NameKind.free) = true
  ·rw [if_pos hk, Q7];cases hx : x == n with
   | true => exact ⟨_, rfl⟩
   | false => exact h
  ·rw [if_neg hk]; exact h
theorem zeu {env : Env} {x : Str} : ∀ (names : List (Str × NameKind)) (cs : List (Str × Addr)), (x, NameKind.free) ∈ names -> ∃ c, (kD env names cs).lookup x = some c
 | (n, k) :: r, cs, h => by
  show ∃ c, (kD env r (if (k == NameKind.free) = true then (n, (env.cells.lookup n).getD 0) :: cs else cs)).lookup x = some c;rcases Qy.mp h with e | e
  ·cases e
   refine zgl r _ ⟨(env.cells.lookup x).getD 0, ?_⟩;rw [if_pos (by rfl), Q7];simp
  ·exact zeu r _ e
def zol (env : Env) (names : List (Str × NameKind)) : List (Str × NameKind) :=
 names.map fun (n, k) => if (k == NameKind.free && env.scope.kind == .function && env.kindOf n == some .cell) then (n, NameKind.cell) else (n, k)
theorem zap {env : Env} {x : Str} {k' : NameKind} : ∀ (names : List (Str × NameKind)), (zol env names).lookup x = some k' -> ∃ k, names.lookup x = some k /\ (k' = k \/ (k = .free /\ k' = .cell))
 | [], h => by simp [zol] at h
 | (n, k) :: r, h => by
  have ih := zap (env := env) (x := x) (k' := k') r;have h' : ((if (k == NameKind.free && env.scope.kind == .function && env.kindOf n == some .cell) = true then (n, NameKind.cell) else (n, k)) :: zol env r).lookup x = some k' := h;by_cases hc : (k == NameKind.free && env.scope.kind == .function && env.kindOf n == some .cell) = true
  ·rw [if_pos hc, Q7] at h';rw [Q7];cases hx : x == n with
   | true =>
    rw [hx] at h';have h2 : NameKind.cell = k' := Option.some.inj h';have hk : k = .free := by
     cases k <;> first | rfl | (simp at hc)
    exact ⟨k, rfl, .inr ⟨hk, h2.symm⟩⟩
   | false =>
    rw [hx] at h';exact ih h'
  ·rw [if_neg hc, Q7] at h';rw [Q7];cases hx : x == n with
   | true =>
    rw [hx] at h';exact ⟨k, rfl, .inl (Option.some.inj h').symm⟩
   | false =>
    rw [hx] at h';exact ih h'
def wW (X : Cx) (scope : Scope) (N' : List Str) (fp : List Addr) (C : Addr) (s : Shared) (H : Hp) : Cx where
 prog := X.prog
 w := X.w
 K := X.K
 mg := X.mg
 base := X.base
 A := X.A
 N := N'
 s₀ := s
 H₀ := H
 env := compEnvC scope (kD X.env scope.names []) C X.env
 outer := X.stack
 stack := X.stack
 ex := fp
 fn := fun _ => false
 calm := true
 pn := X.pn
 xe := fun _ _ => False
def qB (fr : List (Option Nat)) (σ : St) : St := fr.map fun o => o.bind fun j => (σ[j]?).join
def zzw (N : List Str) (kinds names : List (Str × NameKind)) (N' : List Str) (fr : List (Option Nat)) : Bool :=
 (N'.length == fr.length) && (N'.zip fr).all fun p => match p.2 with
  | none => true
  | some j => N[j]? == some p.1 && names.lookup p.1 == some NameKind.free && (kinds.lookup p.1 == some NameKind.cell || kinds.lookup p.1 == some NameKind.free)
theorem zzv {N : List Str} {kinds names : List (Str × NameKind)} {N' : List Str} {fr : List (Option Nat)} (h : zzw N kinds names N' fr = true) {i j : Nat} {x : Str} (h1 : N'[i]? = some x) (h2 : fr[i]? = some (some j)) :
  N[j]? = some x /\ names.lookup x = some NameKind.free /\ (kinds.lookup x = some NameKind.cell \/ kinds.lookup x = some NameKind.free) := by
 unfold zzw at h;rw [Qm, Jy] at h;have hm : (x, some j) ∈ N'.zip fr := by
  refine Q6 (i := i) ?_;rw [List.getElem?_zip_eq_some];exact ⟨h1, h2⟩
 have q := h.2 _ hm;simp only [Qm, Bool.or_eq_true, beq_iff_eq] at q;exact ⟨q.1.1, q.1.2, q.2⟩
structure CompOk (X : Cx) (scope : Scope) (N' : List Str) (fr : List (Option Nat)) : Prop where
 kind : scope.kind = .function
 cells : ∀ y ∈ scope.names, y.2 ≠ .cell
 names : ∀ y ∈ scope.names, y.2 = .local -> scope.names.lookup y.1 = some .local
 frees : ∀ y ∈ scope.names, y.2 = .free -> X.env.kindOf y.1 = some .cell \/ X.env.kindOf y.1 = some .free
 fr : zzw X.N X.env.scope.names scope.names N' fr = true
section
variable {X : Cx} {scope : Scope} {N' : List Str} {fr : List (Option Nat)} {pins : List (Addr × Obj)} {σ : St} {H : Hp} {s : Shared} {fp : List Addr}
theorem CompOk.has (c : CompOk X scope N' fr) (ok : X.Ok) : ∀ y ∈ scope.names, y.2 = .free -> ∃ d, X.env.cells.lookup y.1 = some d := fun y hy h => ok.has _ (c.frees y hy h)
theorem zkv {C : Addr} {h' : Heap} {tk : Nat} {m : Str -> Option Value} (c : CompOk X scope N' fr) (hc : X.calm = true) (I : Inv X pins σ H s) (hf : ∀ b ∈ fp, zbi X pins H b) (hlt : ∀ b ∈ fp, b < s.heap.objs.size)
  (old : ∀ b o, s.heap.get? b = some o -> h'.get? b = some o) (hC : s.heap.objs.size <= C) (hn : h'.Ns C m) :
  Inv (wW X scope N' fp C s H) pins (qB fr σ) H { s with heap := h', toks := tk } := by
 have get : ∀ x d, (kD X.env scope.names []).lookup x = some d -> X.env.cells.lookup x = some d := fun x d e => by
  rcases jJ scope.names [] (c.has I.ok) e with q | q
  ·simp at q
  ·exact q
 have old2 : ∀ b, b < s.heap.objs.size -> b ≠ C := fun b hb => Qd (Q2 hb hC);have hl : (qB fr σ).length = N'.length := by
  have q := c.fr;unfold zzw at q;rw [Qm] at q;have q1 : N'.length = fr.length := by simpa using q.1
  rw [qB, Qj, q1]
 refine ⟨⟨I.ok.mod, c.kind, I.ok.glob, I.ok.blt, hC, ?_, ?_, (fun _ _ z => nomatch z), fun _ => I.ok.hd hc, I.ok.frames, .inl rfl, ?_, I.bs, Qc I.ok.bsz I.sz, ?_, ?_, I.stack, I.stkFree⟩, rfl, I.bare, Un.kept old, ⟨m, hn, ?_⟩, ?_, I.hok.fresh hC, ?_, ?_, I.hok.kept old, hl⟩
 ·exact fun x y d e1 e2 => I.ok.inj x y d (get x d e1) (get y d e2)
 ·intro x hx;have hx' : (zol X.env scope.names).lookup x = some .cell \/ (zol X.env scope.names).lookup x = some .free := hx;have fin : scope.names.lookup x = some .free -> ∃ d, (kD X.env scope.names []).lookup x = some d := fun e => zeu scope.names [] (PySem.mem_of_lookup e);rcases hx' with q | q
  ·obtain ⟨k, e, z⟩ := zap scope.names q;rcases z with z | ⟨z, _⟩
   ·subst z;exact absurd rfl (c.cells _ (PySem.mem_of_lookup e))
   ·subst z;exact fin e
  ·obtain ⟨k, e, z⟩ := zap scope.names q;rcases z with z | ⟨_, z⟩
   ·subst z;exact fin e
   ·cases z
 ·exact fun b hb => ⟨old2 b (hlt b hb), fun x d e => (hf b hb).2.2.2.2.1 x d (get x d e)⟩
 ·intro b o e hb;rcases (hf b hb).2.2.2.1 with z | z
  ·exact I.ok.noex b o e z
  ·exact absurd (Q2 (Qw e) (Qc I.ok.bsz z)) (Js _)
 ·intro b hb hs;rcases Qy.mp (I.stkSub b hs) with z | z
  ·exact (hf b hb).2.1 z
  ·exact (hf b hb).2.2.1 z
 ·intro i x v e1 e2 e3;have e2' : (fr.map fun o => o.bind fun j => (σ[j]?).join)[i]? = some (some v) := e2;rw [Q8] at e2';cases q : fr[i]? with
  | none => rw [q] at e2'; cases e2'
  | some o =>
   rw [q] at e2';have e3' : (o.bind fun j => (σ[j]?).join) = some v := Option.some.inj e2';cases o with
   | none => cases e3'
   | some j =>
    have e4 : (σ[j]?).join = some v := e3';have e5 : σ[j]? = some (some v) := by
     cases z : σ[j]? with
     | none => rw [z] at e4; cases e4
     | some w => rw [z] at e4; exact congrArg some e4
    obtain ⟨f1, f2, f3⟩ := zzv c.fr e1 q;obtain ⟨m0, hn0, hl0⟩ := I.loc;have vis : Vis X.env.scope x := f3.elim (fun z => .inr (.inl z)) fun z => .inr (.inr z);obtain ⟨u, r, look⟩ := hl0 j x v f1 e5 vis;refine ⟨u, r, ?_⟩;rcases look with ⟨k, _⟩ | ⟨k, d, hd, hcell⟩
    ·have k' : X.env.scope.names.lookup x = some .local := k;rcases f3 with z | z <;> (rw [k'] at z; cases z)
    ·refine .inr ⟨?_, d, ?_, ?_⟩
     ·have e3'' : (zol X.env scope.names).lookup x = some .local \/ (zol X.env scope.names).lookup x = some .cell \/ (zol X.env scope.names).lookup x = some .free := e3;rcases e3'' with z | z | z
      ·obtain ⟨k2, e, z2⟩ := zap scope.names z;rw [f2] at e;cases e
       rcases z2 with z2 | ⟨_, z2⟩ <;> cases z2
      ·exact .inl z
      ·exact .inr z
     ·obtain ⟨d', e⟩ := zeu (env := X.env) scope.names [] (PySem.mem_of_lookup f2);have := get x d' e;rw [hd] at this;cases this
      exact e
     ·obtain ⟨ob, h1, h2⟩ := hcell;exact ⟨ob, old _ _ h1, h2⟩
 ·intro x d e;obtain ⟨v, ob, h1, h2⟩ := I.cell x d (get x d e);exact ⟨v, ob, old _ _ h1, h2⟩
 ·exact fun x d e => I.freeC x d (get x d e)
 ·intro p hp;obtain ⟨e, n, ne, nf, dd⟩ := I.pin p hp;refine ⟨old _ _ e, n, old2 _ (Qw e), fun hs => ?_, dd⟩;rcases Qy.mp (I.stkSub p.1 hs) with z | z
  ·exact ne z
  ·exact nf z
end
section
variable {prog : Program} {w : World} {A : Around} {R : Result -> Shared -> Prop} {s : Shared}
theorem zrj {elt tg iter : Expr} {ifs : List Expr} {scope : Scope} {pos : Pos} {it acc : Value} {env : Env} (J : Nat -> Shared -> Prop)
  (turn : ∀ n s, J n s -> wpAny (model prog w) A (pyNext it) (fun r s1 => match r with
   | none => R (.ok .next) s1
   | some v => wpAny (model prog w) A (letOwnedTupleGo tg it v) (fun _ s2 => wpAny (model prog w) A (assign tg env v) (fun _ s3 =>
     wpAny (model prog w) A (forIn ifs true fun c r => if r = true then do
      let ok <- isTrue c env (eval c env)
      pure (ForInStep.yield ok) else pure (ForInStep.yield r)) (fun ok s4 =>
       if ok = true then wpAny (model prog w) A (eval elt env) (fun x s5 =>
        wpAny (model prog w) A (call (.builtin "list.append") [acc, x]) (fun _ s6 => ∃ m, m < n /\ J m s6) (fun _ _ => False) s5) (fun _ _ => False) s4
       else ∃ m, m < n /\ J m s4) (fun _ _ => False) s3) (fun _ _ => False) s2) (fun _ _ => False) s1) (fun _ _ => False) s)
  (n : Nat) (h : J n s) : codeAny (model prog w) A (.compLoop (.ListComp elt [⟨tg, iter, ifs, 0⟩] scope pos) 0 it acc env) R s := by
 refine codeAny_loop rfl J (fun k s1 hJ => ?_) n h;show wpAny _ A ((compTurn (.ListComp elt [⟨tg, iter, ifs, 0⟩] scope pos) 0 it acc env).onRaise (fun y => do noteFrame y env; theTreesLotGoes y)) _ _ s1;refine wpAny_noted (wpAny_mono (E := fun _ _ => False) ?_ (fun _ _ q => q) fun _ _ z => z.elim);rw [compTurn_list];refine Qq (wpAny_standAt (Qq (thn (turn k s1 hJ) fun r s2 h2 => ?_)));cases r with
 | none => exact Qr h2
 | some v =>
  refine Qq (thn h2 fun _ s3 h3 => Qq (thn h3 fun _ s4 h4 => Qq (thn h4 fun ok s5 h5 => ?_)));cases ok with
  | false => exact Qr ⟨rfl, h5⟩
  | true =>
   refine Qq (Qq (thn h5 fun x s6 h6 => Qq (thn h6 fun _ s7 h7 => ?_)));exact Qr (Qr ⟨rfl, h7⟩)
end
theorem HOk.track {P : Program} {w : World} {H : Hp} {h : Heap} {a : Addr} {o : HO} (ok : HOk P w H h) (hn : H a = none) (new : ObjOk P w (upd H a o) h a o) : HOk P w (upd H a o) h := fun b u q => by
 by_cases hb : b = a
 ·subst hb;rw [zB] at q;cases q
  exact new
 ·rw [zS hb] at q;exact (ok b u q).stay (fun _ _ _ r => r) (fun c r => by rw [zS (yD r hn)]; exact r) fun c xs r => by rw [zS (yD r hn)]; exact r
def zef (J : It) (g : TG) (tt : TT) (te : TE) (fin : List V -> Hp -> Prop) (W : Nat -> Nat -> List V -> St -> Hp -> Prop) : Prop :=
 ∀ i m ys σ H, W i m ys σ H -> (J.stop i H /\ ys.length <= sizeLine /\ fin ys H) \/ (J.go i H /\ ys.length < sizeLine /\ ∀ x H', J.yld i H x H' -> g x σ H' fun σ2 H2 => tt σ2 H2 fun b H3 =>
  if b = true then te σ2 H3 fun y H4 => ∃ m', m' < m /\ W (i + 1) m' (ys ++ [y]) σ2 H4 else ∃ m', m' < m /\ W (i + 1) m' ys σ2 H3)
section
variable {X : Cx} {scope : Scope} {N' : List Str} {fr : List (Option Nat)} {pins : List (Addr × Obj)} {σ : St} {H : Hp} {s : Shared} {fp : List Addr} {it : Addr} {tn : Nat -> Heap -> Prop} {J : It}
 {elt tg iter : Expr} {ifs : List Expr} {g : TG} {tt : TT} {te : TE} {pos : Pos} {fin : List V -> Hp -> Prop} {W : Nat -> Nat -> List V -> St -> Hp -> Prop} {RR : Value -> Addr -> Result -> Shared -> Prop} {E : Value -> Shared -> Prop}
theorem zec (c : CompOk X scope N' fr) (hc : X.calm = true) (I : Inv X pins σ H s) (T : znc X.prog X.w X.K tg J fp it tn) (st : tn 0 s.heap) (hf : ∀ b ∈ fp, zbi X pins H b)
  (hg : ∀ fp C s H, PG (wW X scope N' fp C s H) tg g) (ht : ∀ fp C s H, zsp (wW X scope N' fp C s H) ifs tt) (he : ∀ fp C s H, PE (wW X scope N' fp C s H) elt te)
  (hW : zef J g tt te fin W) (h0 : ∃ m, W 0 m [] (qB fr σ) H)
  (hRR : ∀ D C ys H' s', Inv X pins σ (upd H' D (.lst ys)) s' -> (∃ m, s'.heap.Ns C m) -> zbi X pins (upd H' D (.lst ys)) C -> H' D = none -> fin ys H' -> RR (.ref D) C (.ok .next) s') :
  wpAny (model X.prog X.w) X.A (newList []) (fun acc s3 => wpAny (model X.prog X.w) X.A (newFunctionEnv scope X.env.globals (kD X.env scope.names []) [] X.env.qual none .none (some X.env)) (fun cenv s4 =>
   codeAny (model X.prog X.w) X.A (.compStart (.ListComp elt [⟨tg, iter, ifs, 0⟩] scope pos) 0 (.ref it) acc { cenv with scope := relabel scope X.env }) (RR acc cenv.locals) s4) E s3) E s := by
 refine Wb (wpAny_newFunctionEnv c.cells (by intro y hy; simp at hy) (fun h1 hns hsb => ?_) c.kind);dsimp only at hns hsb ⊢;generalize hH2 : s.heap.push { cls := .type "list", dict := none, data := .seq ([] : List Value).toArray } = H2 at hns hsb ⊢;have hD0 : s.heap.objs.size < H2.objs.size := by rw [<- hH2, Jg]; exact Nat.lt_succ_self _
 generalize hDD : s.heap.objs.size = D at hD0 ⊢;generalize hCC : H2.objs.size = C at hns hsb hD0 ⊢;have up : ∀ b o, s.heap.get? b = some o -> h1.get? b = some o := fun b o e => hsb.extBut b o (by
  have := Qw e;rw [hDD] at this;exact Qd (Nat.lt_trans this hD0)) (Qz _ (by rw [<- hH2]; exact Qz _ e))
 have accD : h1.get? D = some { cls := .type "list", dict := none, data := .seq ([] : List Value).toArray } := hsb.extBut _ _ (Qd hD0) (Qz _ (by rw [<- hH2, <- hDD]; exact Qh _ rfl));have hlt : ∀ b ∈ fp, b < s.heap.objs.size := fun b hb => by
  obtain ⟨o, e, _⟩ := T.obj 0 _ st b hb;exact Qw e
 have hle : s.heap.objs.size <= C := by rw [hDD]; exact Qu hD0
 generalize hX' : wW X scope N' fp C s H = X';have I1 : Inv X' pins (qB fr σ) H { s with heap := h1, toks := s.toks + ([] : List (Str × Value)).length } := by
  subst hX';exact zkv c hc I hf hlt up hle hns
 have st1 : tn 0 h1 := T.keep _ _ _ st fun b hb o e => up b o e;have pm : X'.prog = X.prog := by subst hX'; rfl
 have wm : X'.w = X.w := by subst hX'; rfl
 have km : X'.K = X.K := by subst hX'; rfl
 have cm : X'.calm = true := by subst hX'; rfl
 have am : X'.A = X.A := by subst hX'; rfl
 have xm : X'.xe = fun _ _ => False := by subst hX'; rfl
 have lm : X'.env.locals = C := by subst hX'; rfl
 have szm : X'.s₀.heap.objs.size = s.heap.objs.size := by subst hX'; rfl
 have nm : X'.pn = X.pn := by subst hX'; rfl
 have hg' := hg fp C s H;have ht' := ht fp C s H;have he' := he fp C s H;have em : X'.env = compEnvC scope (kD X.env scope.names []) C X.env := by subst hX'; rfl
 have fsm : X'.fs = frs X.stack := by subst hX'; rfl
 have exm : X'.ex = fp := by subst hX'; rfl
 rw [hX'] at hg' ht' he';have ageP : ∀ p ∈ X.pn ++ pins, p.1 < D := fun p hp => by rw [<- hDD]; exact Qw (I.pin p hp).1
 have ageC : ∀ x d, X'.env.cells.lookup x = some d -> d < D := fun x d e => by
  rw [em] at e;rcases jJ scope.names [] (c.has I.ok) e with q | q
  ·simp at q
  ·obtain ⟨v, z⟩ := I.cell x d q;rw [<- hDD];exact z.lt
 have cellF : ∀ x d, X'.env.cells.lookup x = some d -> X.env.cells.lookup x = some d := fun x d e => by
  rw [em] at e;rcases jJ scope.names [] (c.has I.ok) e with q | q
  ·simp at q
  ·exact q
 have fps : ∀ {H' : Hp} {oD : Obj}, (∀ b ∈ fp, H' b = none) -> ∀ b ∈ fp, zbi X' (pins ++ [(D, oD)]) H' b := fun {H' oD} hn b hb => by
  obtain ⟨_, f1, f2, f3, f4, f5⟩ := hf b hb;have hbD : b < D := by rw [<- hDD]; exact hlt b hb
  refine ⟨hn b hb, ?_, ?_, .inl (by rw [exm]; exact hb), fun x d e => f4 x d (cellF x d e), fun p hp => ?_⟩
  ·rw [lm]; exact Qd (Nat.lt_trans hbD hD0)
  ·rw [fsm];intro hs;rcases Qy.mp (I.stkSub b hs) with z | z
   ·exact f1 z
   ·exact f2 z
  ·rw [nm, <- Q9] at hp;rcases Q5.mp hp with z | z
   ·exact f5 p z
   ·rw [Q3.mp z];exact Wx hbD
 have pinD : ∀ {σ' : St} {H' : Hp} {s' : Shared} {its : List Value} {k : Nat}, Inv X' pins σ' H' s' -> s'.heap.get? D = some { cls := .type "list", data := .seq its.toArray k } -> H' D = none ->
   Inv X' (pins ++ [(D, { cls := .type "list", data := .seq its.toArray k })]) σ' H' s' := fun {σ' H' s' its k} J0 e n => J0.pins_of fun p hp => by
  rcases Q5.mp hp with z | z
  ·exact J0.pin p (Qf _ z)
  ·rw [Q3.mp z];refine ⟨e, n, ?_, ?_, fun v q => by cases q⟩
   ·show D ≠ X'.env.locals;rw [lm];exact Qd hD0
   ·rw [fsm];intro hs;have hb := I.stkSub D hs;rcases Qy.mp hb with z | z
    ·have := I.lt;rw [<- z, hDD] at this;exact Js _ this
    ·exact I.nofs (Nat.le_of_eq hDD) z
 have loop : ∀ s0 : Shared, s0 = { s with heap := h1, toks := s.toks + ([] : List (Str × Value)).length } ->
   codeAny (model X.prog X.w) X.A (.compLoop (.ListComp elt [⟨tg, iter, ifs, 0⟩] scope pos) 0 (.ref it) (.ref D) X'.env) (RR (.ref D) C) s0 := by
  rintro s0 rfl;obtain ⟨m0, w0⟩ := h0;refine zrj (fun n s' => ∃ i ys σ' H' its k, Inv X' pins σ' H' s' /\ tn i s'.heap /\ (∀ b ∈ fp, H' b = none) /\ s'.heap.get? D = some { cls := .type "list", data := .seq (its : List Value).toArray k } /\ H' D = none /\ Vals ys its /\ W i n ys σ' H')
   ?_ m0 ⟨0, [], qB fr σ, H, [], 0, I1, st1, fun b hb => (hf b hb).1, accD, I.hok.fresh (by rw [hDD]; exact Qx _), .nil, w0⟩
  rintro n s1 ⟨i, ys, σ1, H1, its, k, J1, t1, n1, d1, nD1, v1, w1⟩;have J1' := pinD J1 d1 nD1;rcases hW i n ys σ1 H1 w1 with ⟨stop, hlen, fi⟩ | ⟨go, hlen, step⟩
  ·have a1 := T.done X' pm wm km cm i _ s1 σ1 H1 (fun _ _ => False) J1' (fps n1) t1 stop;rw [am] at a1;refine thn a1 fun r s2 ⟨hr, J2⟩ => ?_;subst hr;obtain ⟨d2, nD2, _⟩ := J2.pin (D, _) (Qf _ (Qf _ Qg));have u2 : Un (frs X.stack) fp H H1 s.heap s2.heap := by
    have := J2.base;subst hX';exact this
   have hok2 : HOk X.prog X.w (upd H1 D (.lst ys)) s2.heap := by
    have h2 := J2.hok;rw [pm, wm] at h2;exact h2.track nD1 ⟨hlen, its, k, v1, d2⟩
   have J3 : Inv X pins σ (upd H1 D (.lst ys)) s2 := by
    refine I.call' (ch := fp) (by have := J2.os; subst hX'; exact this) ⟨fun b o e n hb hx => u2.keep b o e n hb hx, fun b o e n hb hx => u2.slot b o e n hb hx, fun b o e n hx => ?_, fun b o e hx => u2.there b o e hx, fun b xs e => ?_, fun b o u e => ?_, fun b ps e => ?_⟩ hok2 J2.bare fun b hb => ?_
    ·have ne : b ≠ D := Qd (by rw [<- hDD]; exact Qw e);rw [zS ne];exact u2.free b o e n hx
    ·have q := u2.tups b xs e;rw [zS (yD q nD1)];exact q
    ·have q := u2.frzs b o u e;rw [zS (yD q nD1)];exact q
    ·obtain ⟨more, q⟩ := u2.tbls b ps e;exact ⟨more, by rw [zS (yD q nD1)]; exact q⟩
    ·obtain ⟨_, f1, f2, f3, f4, f5⟩ := hf b hb;exact ⟨f3, f1, f4, f5⟩
   have nC : (upd H1 D (.lst ys)) C = none := by
    rw [zS (Wx hD0)];have := J2.free;rw [lm] at this;exact this
   refine hRR D C ys H1 s2 J3 ?_ (I.fpOk hle nC) nD1 fi;obtain ⟨m, hm, _⟩ := J2.loc;rw [lm] at hm;exact ⟨m, hm⟩
  ·have a1 := T.item X' pm wm km cm i _ s1 σ1 H1 (fun _ _ => False) J1' (fps n1) t1 go;rw [am] at a1;refine thn a1 fun r s2 ⟨u, hr, h2⟩ => ?_;subst hr;refine thn h2 fun _ s3 ⟨x, H3, J3, r3, y3, t3, n3⟩ => ?_;have J3' := J3.pinned (fps n3) (T.obj _ _ t3);have a3 := hg' _ s3 σ1 H3 x u _ J3' r3 (step x H3 y3);rw [pm, wm, am, xm] at a3;refine thn a3 fun _ s4 ⟨σ4, H4, J4, q4⟩ => ?_;have a4 := ht' _ s4 σ4 H4 _ J4 q4;rw [pm, wm, am, xm] at a4;refine thn a4 fun ok s5 ⟨H5, J5, q5⟩ => ?_;have keepT : ∀ {σ' : St} {H' : Hp} {s' : Shared}, Inv X' (pins ++ [(D, { cls := .type "list", data := .seq its.toArray k })] ++ zcs fp s3.heap) σ' H' s' -> tn (i + 1) s'.heap /\ (∀ b ∈ fp, H' b = none) /\ s'.heap.get? D = some { cls := .type "list", data := .seq its.toArray k } /\ H' D = none /\ Inv X' pins σ' H' s' := fun {σ' H' s'} J0 => by
    refine ⟨T.keep _ _ _ t3 fun b hb o e => (J0.pin (b, o) (Qf _ (Qf _ (vX hb e)))).1, fun b hb => ?_, ?_, ?_, J0.unpinned.unpinned⟩
    ·obtain ⟨o, e, _⟩ := T.obj _ _ t3 b hb;exact (J0.pin (b, o) (Qf _ (Qf _ (vX hb e)))).2.1
    ·exact (J0.pin (D, _) (Qf _ (Wk _ (Qf _ Qg)))).1
    ·exact (J0.pin (D, { cls := .type "list", data := .seq its.toArray k }) (Qf _ (Wk _ (Qf _ Qg)))).2.1
   cases ok with
   | false =>
    obtain ⟨m', hm, w'⟩ := q5;obtain ⟨e1, e2, e3, e4, e5⟩ := keepT J5;rw [if_neg Qs];exact ⟨m', hm, i + 1, ys, σ4, H5, its, k, e5, e1, e2, e3, e4, v1, w'⟩
   | true =>
    rw [if_pos rfl];have a5 := he' _ s5 σ4 H5 _ J5 q5;rw [pm, wm, am, xm] at a5;refine thn a5 fun u6 s6 ⟨y, H6, J6, r6, m', hm, w6⟩ => ?_;obtain ⟨e1, e2, e3, e4, e5⟩ := keepT J6;refine append_at (hsz := by show its.toArray.size <= sizeLine; rw [Q4, <- v1.length]; exact Qu hlen) e3 fun h7 sb7 d7 => ?_;have J7 : Inv X' pins σ4 H6 { s6 with heap := h7 } := e5.turned (t' := s6.toks) (it := D) (fun b o hb e => sb7.extBut b o hb e) e4 (by rw [lm]; exact Qd hD0) (.inr (by rw [szm, hDD]; exact Qx _)) (fun x d e => Qd (ageC x d e)) fun p hp => by
     rw [nm] at hp;exact Qd (ageP p hp)
    refine ⟨m', hm, i + 1, ys ++ [y], σ4, H6, its ++ [u6], k + 1, J7, T.keep _ _ _ e1 fun b hb o e => sb7.extBut b o (Qd (by rw [<- hDD]; exact hlt b hb)) e, e2, ?_, e4, v1.append (.cons r6 .nil), w6⟩;rw [d7, List.push_toArray]
 have env1 : ({ newEnv scope C X.env.globals (kD X.env scope.names []) X.env.qual none .none (some X.env) 0 with scope := relabel scope X.env } : Env) = X'.env := by rw [em]; rfl
 have lp := loop _ rfl;rw [em] at lp;exact codeAny_compStart_list lp (T.self _ 0 _ _ _ st1 lp)
def zBh (wi : TI) (fr : List (Option Nat)) (g : TG) (tt : TT) (te : TE) : TE := fun σ H Q => wi σ H fun J H1 =>
 ∃ W, zef J g tt te (fun ys H' => ∀ p, H' p = none -> Q (.ref p) (upd H' p (.lst ys))) W /\ ∃ m, W 0 m [] (qB fr σ) H1
theorem wL {wi : TI} (c : CompOk X scope N' fr) (hc : X.calm = true) (hi : PI X tg iter wi) (hg : ∀ fp C s H, PG (wW X scope N' fp C s H) tg g) (ht : ∀ fp C s H, zsp (wW X scope N' fp C s H) ifs tt)
  (he : ∀ fp C s H, PE (wW X scope N' fp C s H) elt te) (hs : ∀ x, foldedSetIterable iter X.env x = pure x := by intro _; rfl) : PE X (.ListComp elt [⟨tg, iter, ifs, 0⟩] scope pos) (zBh wi fr g tt te) := by
 intro pins s σ H Q I h;rw [eval_ListComp];refine wpAny_comprehension_free (use := none) rfl hs (gX (c.has I.ok)) c.kind c.names (thn (hi pins s σ H _ I h) fun v s1 h1 => thn h1 fun itv s2 h2 => ?_);obtain ⟨it, fp, tn, J, H2, e, I2, T, st2, f2, W, hW, h0⟩ := h2;subst e;refine zec c hc I2 T st2 f2 hg ht he hW h0 ?_;rintro D C ys H' s' J3 ⟨m, hm⟩ ⟨f0, f1, _, f3, f4, f5⟩ nD fi;exact ⟨m, hm, fun h'' sb => ⟨.ref D, _, J3.turned (t' := s'.toks) (it := C) (fun b o hb e => sb.extBut b o hb e) f0 f1 f3 f4 f5, rfl, fi D nD⟩⟩
def zka (i : Nat) (wi : TI) (fr : List (Option Nat)) (g : TG) (tt : TT) (te : TE) : TS := fun D σ H => wi σ H fun J H1 =>
 ∃ W, zef J g tt te (fun ys H' => ∀ p, H' p = none -> D.nx (σ.set i (some (.ref p))) (upd H' p (.lst ys))) W /\ ∃ m, W 0 m [] (qB fr σ) H1
theorem vW {wi : TI} {i : Nat} {y : Str} {py spos : Pos} (hN : X.N.Nodup) (hi' : X.N[i]? = some y) (hy : Loc X.env.scope y) (c : CompOk X scope N' fr) (hc : X.calm = true) (hi : PI X tg iter wi) (hg : ∀ fp C s H, PG (wW X scope N' fp C s H) tg g) (ht : ∀ fp C s H, zsp (wW X scope N' fp C s H) ifs tt)
  (he : ∀ fp C s H, PE (wW X scope N' fp C s H) elt te) (hs : ∀ x, foldedSetIterable iter X.env x = pure x := by intro _; rfl)
  (hsw : swapsWith (.ListComp elt [⟨tg, iter, ifs, 0⟩] scope pos) (some (.Name y py)) spos.line X.env = pure true := by rfl) (hf : X.fn y = true \/ X.env.scope.names.lookup y = some .local := by first | exact .inl rfl | exact .inr rfl | assumption) :
  PS X (.Assign [.Name y py] (.ListComp elt [⟨tg, iter, ifs, 0⟩] scope pos) spos) (zka i wi fr g tt te) := by
 intro pins s σ H D I h;rw [exec_Assign_Name_used _ _ _ _ hsw];refine Qq (wpAny_standAt (Qq ?_));show wpAny _ X.A (do let _ <- comprehension (.ListComp elt [⟨tg, iter, ifs, 0⟩] scope pos) scope X.env _ (newList []) false (eval iter X.env) (some (assign (.Name y py) X.env))) _ _ s;refine Qq (thn (wpAny_comprehension_free (use := some (assign (.Name y py) X.env)) (Q := fun _ s' => SP X pins D .next s') rfl hs (gX (c.has I.ok)) c.kind c.names
  (thn (hi pins s σ H _ I h) fun v s1 h1 => thn h1 fun itv s2 h2 => ?_)) fun _ s' hq => Qr (Qr hq))
 obtain ⟨it, fp, tn, J, H2, e, I2, T, st2, f2, W, hW, h0⟩ := h2;subst e;refine zec c hc I2 T st2 f2 hg ht he hW h0 ?_;rintro B C ys H' s' J3 ⟨m, hm⟩ ⟨f0, f1, _, f3, f4, f5⟩ nD fi;show wpAny _ X.A (assign (.Name y py) X.env (.ref B)) _ _ s';refine wpAny_assign_Name (zbk J3 hN hi' hy (show RelV (.ref B) (.ref B) from rfl) (fun s4 J4 ⟨a, sb, ha⟩ => ?_) hf);have nCa : C ≠ a := by
  rcases ha with z | z
  ·rw [z]; exact f1
  ·exact fun q => f4 y a z q.symm
 exact ⟨m, hm.sameBut sb nCa, fun h'' sb2 => ⟨_, _, J4.turned (t' := s4.toks) (it := C) (fun b o hb e => sb2.extBut b o hb e) f0 f1 f3 f4 f5, fi B nD⟩⟩
end
section
variable {X : Cx}
theorem zju : vK X (.builtin "isinstance") (fun xs H Q => ∃ x c t u b, xs = [x, c] /\ RelV c u /\ gO X.K H x t /\ PySem.W.kitOne X.K t u = some b /\ Q (.bl b) H) := by
 intro pins s σ H xs us Q I r h;obtain ⟨x, c, t, u, b, rfl, rc, ty, e, q⟩ := h;obtain ⟨u1, u2, rfl, r1, r2⟩ := Vals.two r;have hu : u2 = u := by
  cases c <;> first
   | exact (show u2 = _ from r2).trans (show u = _ from rc).symm
   | skip
  all_goals (exfalso; obtain ⟨_, rfl⟩ := rc; unfold PySem.W.kitOne PySem.W.kitCls at e; split at e <;> first | (cases ty <;> simp_all) | (simp at e))
 subst hu;exact zqt I r1 ty e fun tk => ⟨.bl b, H, I.tok tk, rfl, q⟩
inductive SameD (K : PySem.W.Frag) (H : Hp) : Nat -> V -> V -> Prop
 | flat {n : Nat} {x : V} (f : k6 x = true) : SameD K H n x x
 | tup {n : Nat} {a b : Addr} {xs ys : List V} (ha : SqT K H a xs) (hb : SqT K H b ys) (hl : xs.length = ys.length) (h : ∀ (i : Nat) (x y : V), xs[i]? = some x -> ys[i]? = some y -> SameD K H n x y) : SameD K H (n + 1) (.ref a) (.ref b)
 | lst {n : Nat} {a b : Addr} {xs ys : List V} (ha : SqL K H a xs) (hb : SqL K H b ys) (hl : xs.length = ys.length) (h : ∀ (i : Nat) (x y : V), xs[i]? = some x -> ys[i]? = some y -> SameD K H n x y) : SameD K H (n + 1) (.ref a) (.ref b)
theorem zut {x : V} (f : k6 x = true) : eqV x x = true := by
 cases x <;> first | (exact absurd (show false = true from f) Qs) | rfl | (simp [eqV])
theorem x5 (n : Nat) (e : Nat -> Bool) (h : ∀ i, e i = true) : (List.range n).all e = true := by
 rw [Jy]; intro i _; exact h i
theorem kZ {A : Around} : A.in1.units <= A.units + 1 := by
 first
  | exact Qx _
  | exact Nat.le_succ _
  | (simp [Around.in1])
theorem SameD.rc {pins : List (Addr × Obj)} {σ : St} {H : Hp} {s : Shared} (I : Inv X pins σ H s) {n : Nat} {x y : V} (h : SameD X.K H n x y) : ∀ (A : Around), A.units + n < cLine -> ∀ (u v : Value), RelV x u -> RelV y v -> SeqAt.EqAt A s u v true := by
 induction h with
 | flat f => intro A hu u v ru rv; have := zwx (A := A) (s := s) ru rv f f; rw [zut f] at this; exact this
 | @tup n a b xs ys ha hb hl _ ih =>
  intro A hu u v ru rv;cases (show u = Value.ref a from ru)
  cases (show v = Value.ref b from rv)
  by_cases e : a = b
  ·subst e; exact SeqAt.EqAt.same _
  ·obtain ⟨its, r1, t1, _⟩ := I.tuple ha;obtain ⟨its2, r2, t2, _⟩ := I.tuple hb;have hz : its.toArray.size = its2.toArray.size := by simp [<- r1.length, <- r2.length, hl]
   refine SeqAt.EqAt.of_refs e ?_;have q := SeqAt.RcAt.tuples (e := fun _ => true) (A := A) t1 t2 (by lia) (fun j h1 h2 => ?_)
   ·rw [x5 _ _ (fun _ => rfl), hz] at q
    simpa using q
   ·have l1 : j < xs.length := by have := r1.length; simp at h1; lia
    have l2 : j < ys.length := by lia
    obtain ⟨u1, e1, q1⟩ := r1.get (i := j) (x := xs[j]) (by simp [l1]);obtain ⟨u2, e2, q2⟩ := r2.get (i := j) (x := ys[j]) (by simp [l2]);have w1 : its.toArray[j] = u1 := by have := Qn.mp e1; simpa using this.2
    have w2 : its2.toArray[j] = u2 := by have := Qn.mp e2; simpa using this.2
    rw [w1, w2];exact ih j _ _ (by simp [l1]) (by simp [l2]) A.in1 (by have := @kZ A; lia) _ _ q1 q2
 | @lst n a b xs ys ha hb hl _ ih =>
  intro A hu u v ru rv;cases (show u = Value.ref a from ru)
  cases (show v = Value.ref b from rv)
  by_cases e : a = b
  ·subst e; exact SeqAt.EqAt.same _
  ·obtain ⟨its, r1, t1, _⟩ := I.list ha;obtain ⟨its2, r2, t2, _⟩ := I.list hb;have hz : its.toArray.size = its2.toArray.size := by simp [<- r1.length, <- r2.length, hl]
   refine SeqAt.EqAt.of_refs e ?_;have q := SeqAt.RcAt.lists (e := fun _ => true) (A := A) t1.isList t2.isList hz (by lia) (fun j h1 h2 => ?_)
   ·rw [x5 _ _ (fun _ => rfl)] at q;exact q
   ·have l1 : j < xs.length := by have := r1.length; simp at h1; lia
    have l2 : j < ys.length := by lia
    obtain ⟨u1, e1, q1⟩ := r1.get (i := j) (x := xs[j]) (by simp [l1]);obtain ⟨u2, e2, q2⟩ := r2.get (i := j) (x := ys[j]) (by simp [l2]);have w1 : its.toArray[j] = u1 := by have := Qn.mp e1; simpa using this.2
    have w2 : its2.toArray[j] = u2 := by have := Qn.mp e2; simpa using this.2
    rw [w1, w2];exact ih j _ _ (by simp [l1]) (by simp [l2]) A.in1 (by have := @kZ A; lia) _ _ q1 q2
def zmd (K : PySem.W.Frag) (out : Bool) : R2 := fun x y H Q => ∃ a b xs ys n, x = .ref a /\ y = .ref b /\ ((SqT K H a xs /\ SqT K H b ys) \/ (SqL K H a xs /\ SqL K H b ys)) /\ xs.length = ys.length /\ n <= 64 /\
 (∀ (i : Nat) (x y : V), xs[i]? = some x -> ys[i]? = some y -> SameD K H n x y) /\ Q (.bl out) H
theorem jR {pins : List (Addr × Obj)} {σ : St} {H : Hp} {s : Shared} (I : Inv X pins σ H s) {A : Around} {n : Nat} {xs ys : List V} {its its2 : List Value} (hu : A.units + n < cLine) (r1 : Vals xs its) (r2 : Vals ys its2) (hl : xs.length = ys.length)
  (h : ∀ (i : Nat) (x y : V), xs[i]? = some x -> ys[i]? = some y -> SameD X.K H n x y) : ∀ j (h1 : j < its.toArray.size) (h2 : j < its2.toArray.size), SeqAt.EqAt A s its.toArray[j] its2.toArray[j] true := by
 intro j h1 h2;have l1 : j < xs.length := by have := r1.length; simp at h1; lia
 have l2 : j < ys.length := by lia
 obtain ⟨u1, e1, q1⟩ := r1.get (i := j) (x := xs[j]) (by simp [l1]);obtain ⟨u2, e2, q2⟩ := r2.get (i := j) (x := ys[j]) (by simp [l2]);have w1 : its.toArray[j] = u1 := by have := Qn.mp e1; simpa using this.2
 have w2 : its2.toArray[j] = u2 := by have := Qn.mp e2; simpa using this.2
 rw [w1, w2];exact (h j _ _ (by simp [l1]) (by simp [l2])).rc I A hu _ _ q1 q2
theorem zDs (hu : X.A.units + 66 < cLine) : OpR X (compareOp .Eq) (zmd X.K true) := by
 intro pins s σ H x y v u Q I rx ry h;obtain ⟨a, b, xs, ys, n, rfl, rfl, hk, hl, hn, hs, q⟩ := h;cases (show v = Value.ref a from rx)
 cases (show u = Value.ref b from ry)
 have hu1 : X.A.in1.units + n < cLine := by have := @kZ X.A; lia
 rcases hk with ⟨ha, hb⟩ | ⟨ha, hb⟩
 ·obtain ⟨its, r1, t1, _⟩ := I.tuple ha;obtain ⟨its2, r2, t2, _⟩ := I.tuple hb;have hz : its.toArray.size = its2.toArray.size := by simp [<- r1.length, <- r2.length, hl]
  refine SeqAt.eq_tupleAt (e := fun _ => true) t1 t2 (by lia) (jR I hu1 r1 r2 hl hs) ?_;rw [x5 _ _ (fun _ => rfl), hz];exact ⟨.bl true, H, I, by simp [RelV], q⟩
 ·obtain ⟨its, r1, t1, _⟩ := I.list ha;obtain ⟨its2, r2, t2, _⟩ := I.list hb;have hz : its.toArray.size = its2.toArray.size := by simp [<- r1.length, <- r2.length, hl]
  refine SeqAt.eq_listAt (e := fun _ => true) t1.isList t2.isList hz (by lia) (jR I hu1 r1 r2 hl hs) ?_;rw [x5 _ _ (fun _ => rfl)];exact ⟨.bl true, H, I, rfl, q⟩
theorem zDr (hu : X.A.units + 66 < cLine) : OpR X (compareOp .NotEq) (zmd X.K false) := by
 intro pins s σ H x y v u Q I rx ry h;obtain ⟨a, b, xs, ys, n, rfl, rfl, hk, hl, hn, hs, q⟩ := h;cases (show v = Value.ref a from rx)
 cases (show u = Value.ref b from ry)
 have hu1 : X.A.in1.units + n < cLine := by have := @kZ X.A; lia
 rcases hk with ⟨ha, hb⟩ | ⟨ha, hb⟩
 ·obtain ⟨its, r1, t1, _⟩ := I.tuple ha;obtain ⟨its2, r2, t2, _⟩ := I.tuple hb;have hz : its.toArray.size = its2.toArray.size := by simp [<- r1.length, <- r2.length, hl]
  refine EqBoolInt.of_rcne (SeqAt.RcNeAt.tuples (e := fun _ => true) t1 t2 (by lia) (jR I hu1 r1 r2 hl hs)) ?_;rw [x5 _ _ (fun _ => rfl), hz];exact ⟨.bl false, H, I, by simp [RelV], q⟩
 ·obtain ⟨its, r1, t1, _⟩ := I.list ha;obtain ⟨its2, r2, t2, _⟩ := I.list hb;have hz : its.toArray.size = its2.toArray.size := by simp [<- r1.length, <- r2.length, hl]
  refine EqBoolInt.of_rcne (SeqAt.RcNeAt.lists (e := fun _ => true) t1.isList t2.isList hz (by lia) (jR I hu1 r1 r2 hl hs)) ?_;rw [x5 _ _ (fun _ => rfl)];exact ⟨.bl false, H, I, rfl, q⟩
theorem kY {h h' : Heap} {o : Obj} (hk : ∀ b u, b ∉ [h.objs.size] -> (h.push o).get? b = some u -> h'.get? b = some u) : ∀ b u, h.get? b = some u -> h'.get? b = some u := fun b u e =>
 hk b u (fun hm => absurd (Qw e) (by rw [Q3.mp hm]; exact Js _)) (Qz _ e)
theorem zlk {bs : List Bool} {its : List Value} (r : Vals (bs.map V.bl) its) {i : Nat} {v : Value} (e : its.toArray[i]? = some v) : v = .bool (bs.getD i false) := by
 have e' : its[i]? = some v := by simpa using e
 have hl : i < its.length := (Qn.mp e').1;have hb : i < bs.length := by have := r.length; rw [Qj] at this; lia
 obtain ⟨u, e1, q⟩ := r.get (i := i) (x := V.bl bs[i]) (by simp [hb]);rw [e1] at e';cases e'
 have e3 : v = Value.bool bs[i] := q;rw [e3];simp [List.getD, hb]
theorem zfb (bs : List Bool) : (List.range bs.length).all (fun i => bs.getD i false) = bs.all id := by
 rw [Jd, Jy, Jy];constructor
 ·intro h x hx;obtain ⟨i, hi, e⟩ := List.mem_iff_getElem.mp hx;have := h i (Jl.mpr hi);simp [List.getD, hi, e] at this;exact this
 ·intro h i hi;have hi' := Jl.mp hi;have := h bs[i] (List.getElem_mem hi')
  simpa [List.getD, hi'] using this
theorem kO (hc : X.calm = true) : vK X (.builtin "all") (fun xs H Q => ∃ (p : Addr) (bs : List Bool), xs = [.ref p] /\ SqL X.K H p (bs.map V.bl) /\ Q (.bl (bs.all id)) H) := by
 intro pins s σ H xs us Q I r h;obtain ⟨p, bs, rfl, hp, q⟩ := h;obtain ⟨u, rfl, ru⟩ := Vals.one r;cases (show u = Value.ref p from ru)
 obtain ⟨its, r1, t1, _⟩ := I.list hp;have hh : X.A.in1.handled = none := I.ok.hd hc;have hlt : p < s.heap.objs.size := by obtain ⟨_, e, _⟩ := t1.isList; exact Qw e
 refine call_all_walk (wpAny_pyIter_list t1.isList ⟨_, _, _, _, _, _, fun i => bs.getD i false, rfl, Walks.list hh _ p (Qd hlt) its.toArray, ⟨⟨_, Qh _ rfl, rfl, rfl⟩, t1.isList.push _⟩, ?_, ?_⟩)
 ·intro i v s' Q' E' e hq;rw [zlk r1 e];exact wpAny_truthy_bool hq
 ·intro h' tk hk;have hl : its.toArray.size = bs.length := by have := r1.length; simp at this ⊢; lia
  rw [hl, zfb];exact ⟨.bl _, H, I.kept (kY hk), rfl, q⟩
end
section
variable {X : Cx} {pins : List (Addr × Obj)} {σ : St} {H : Hp} {s : Shared}
theorem Inv.turnM {ch : List Addr} {t' : Nat} {h' : Heap} (I : Inv X pins σ H s) (hf : ∀ b ∈ ch, zbi X pins H b) (k : ∀ b u, b ∉ ch -> s.heap.get? b = some u -> h'.get? b = some u) : Inv X pins σ H { s with heap := h', toks := t' } := by
 have nch : ∀ b u, H b = some u -> b ∉ ch := fun b u e z => by have := (hf b z).1; rw [this] at e; cases e
 refine I.step (g' := s.gens) (d' := s.drawn) (ch := ch) (fun b hb => ⟨(hf b hb).2.2.2.1, (hf b hb).2.1, (hf b hb).2.2.2.2.1, (hf b hb).2.2.2.2.2⟩) (fun b o _ _ hc e _ => k b o hc e) (fun b o _ _ hc e _ => ⟨o.slots, k b o hc e⟩) (fun _ _ _ _ n => n)
  (fun b o hc e => ⟨o, k b o hc e⟩) (fun _ _ e => e) (fun _ _ _ e => e) (fun b ps e => ⟨#[], by rw [e]; simp⟩) (fun m hm => ?_) (fun b u e => ?_) I.bare
 ·obtain ⟨o, es, ep, ho, r⟩ := hm;exact ⟨o, es, ep, k _ o (fun z => (hf _ z).2.1 rfl) ho, r⟩
 ·refine (I.hok b u e).stay (fun c v hc q => k c v ?_ q) (fun _ q => q) fun _ _ q => q;rcases hc with z | z
  ·rw [z]; exact nch b u e
  ·exact nch c _ z
theorem Inv.turnNew {ch : List Addr} {T : Addr} {o : HO} {t' : Nat} {h' : Heap} (I : Inv X pins σ H s) (hf : ∀ b ∈ ch, zbi X pins H b) (k : ∀ b u, b ∉ ch -> s.heap.get? b = some u -> h'.get? b = some u) (hT : s.heap.objs.size <= T)
  (new : ObjOk X.prog X.w (upd H T o) h' T o) : Inv X pins σ (upd H T o) { s with heap := h', toks := t' } := by
 have nch : ∀ b u, H b = some u -> b ∉ ch := fun b u e z => by have := (hf b z).1; rw [this] at e; cases e
 have nT : H T = none := I.hok.fresh hT;have neT : ∀ b u, s.heap.get? b = some u -> b ≠ T := fun b u e => Qd (Q2 (Qw e) hT);refine I.step (g' := s.gens) (d' := s.drawn) (ch := ch) (fun b hb => ⟨(hf b hb).2.2.2.1, (hf b hb).2.1, (hf b hb).2.2.2.2.1, (hf b hb).2.2.2.2.2⟩) (fun b o _ _ hc e _ => k b o hc e) (fun b o _ _ hc e _ => ⟨o.slots, k b o hc e⟩) (fun b u _ e n => by rw [zS (neT b u e)]; exact n)
  (fun b o hc e => ⟨o, k b o hc e⟩) (fun b xs e => by rw [zS (yD e nT)]; exact e) (fun b o u e => by rw [zS (yD e nT)]; exact e) (fun b ps e => ⟨#[], by rw [zS (yD e nT), e]; simp⟩) (fun m hm => ?_) (fun b u e => ?_) I.bare
 ·obtain ⟨o, es, ep, ho, r⟩ := hm;exact ⟨o, es, ep, k _ o (fun z => (hf _ z).2.1 rfl) ho, r⟩
 ·by_cases hb : b = T
  ·subst hb;rw [zB] at e;cases e
   exact new
  ·rw [zS hb] at e;refine (I.hok b u e).stay (fun c v hc q => k c v ?_ q) (fun c r => by rw [zS (yD r nT)]; exact r) fun c xs r => by rw [zS (yD r nT)]; exact r
   rcases hc with z | z
   ·rw [z]; exact nch b u e
   ·exact nch c _ z
end
inductive Kd | l | t
def ItAt (k : Kd) (h : Heap) (it a : Addr) (i : Nat) : Prop := match k with | .l => h.IsListIter it a i | .t => h.IsTupleIter it a i
def SqK (k : Kd) (K : PySem.W.Frag) (H : Hp) (a : Addr) (xs : List V) : Prop := match k with | .l => SqL K H a xs | .t => SqT K H a xs
def SeqIs (k : Kd) (h : Heap) (a : Addr) (its : List Value) : Prop := match k with | .l => h.IsList a its.toArray | .t => h.IsTuple a its.toArray
def ziy : Kd -> String | .l => "list_iterator" | .t => "tuple_iterator"
theorem Inv.seq {X : Cx} {pins : List (Addr × Obj)} {σ : St} {H : Hp} {s : Shared} (I : Inv X pins σ H s) {k : Kd} {a : Addr} {xs : List V} (h : SqK k X.K H a xs) : ∃ its : List Value, Vals xs its /\ SeqIs k s.heap a its /\ xs.length <= sizeLine := by
 cases k with
 | l => obtain ⟨its, r, t, z⟩ := I.list h; exact ⟨its, r, t.isList, z⟩
 | t => obtain ⟨its, r, t, z⟩ := I.tuple h; exact ⟨its, r, t, z⟩
theorem ItAt.kept {k : Kd} {h h' : Heap} {it a : Addr} {i : Nat} (q : ItAt k h it a i) (e : ∀ o, h.get? it = some o -> h'.get? it = some o) : ItAt k h' it a i := by
 cases k with
 | l => obtain ⟨o, ho, r⟩ := (show h.IsListIter it a i from q); exact ⟨o, e _ ho, r⟩
 | t => obtain ⟨o, ho, r⟩ := (show h.IsTupleIter it a i from q); exact ⟨o, e _ ho, r⟩
theorem ItAt.obj {k : Kd} {h : Heap} {it a : Addr} {i : Nat} (q : ItAt k h it a i) : ∃ o, h.get? it = some o /\ ∀ v, o.data ≠ .cell v := by
 cases k with
 | l => obtain ⟨o, ho, _, d⟩ := (show h.IsListIter it a i from q); exact ⟨o, ho, fun v z => by rw [d] at z; cases z⟩
 | t => obtain ⟨o, ho, _, d⟩ := (show h.IsTupleIter it a i from q); exact ⟨o, ho, fun v z => by rw [d] at z; cases z⟩
theorem SeqIs.kept {k : Kd} {h h' : Heap} {a : Addr} {its : List Value} (q : SeqIs k h a its) (e : ∀ o, h.get? a = some o -> h'.get? a = some o) : SeqIs k h' a its := by
 cases k with
 | l => obtain ⟨o, ho, r⟩ := (show h.IsList a its.toArray from q); exact ⟨o, e _ ho, r⟩
 | t => obtain ⟨o, ho, r⟩ := (show h.IsTuple a its.toArray from q); exact ⟨o, e _ ho, r⟩
section
variable {prog : Program} {w : World} {A : Around} {E : Value -> Shared -> Prop} {s : Shared}
theorem zuf {it t : Addr} {i : Nat} {its : List Value} {x : Value} {Q : Value -> Shared -> Prop} (hi : s.heap.IsTupleIter it t i) (ht : s.heap.IsTuple t its.toArray) (hx : its[i]? = some x)
  (q : ∀ h', h'.IsTupleIter it t (i + 1) -> Heap.SameBut it s.heap h' -> Q x { s with heap := h' }) : wpAny (model prog w) A (Builtin.SmallTypes.nextOf (.ref it)) Q E s := by
 obtain ⟨oi, gi, ci, di⟩ := id hi;obtain ⟨ot, gt, _, nt, dt⟩ := ht;have hx' : its.toArray[i]? = some x := by simpa using hx
 unfold Builtin.SmallTypes.nextOf;refine Qq (wpAny_callSpecial?_slot (name := Str.ofString "__next__") hi.typeIs F.slot_tuple_iterator_next (wpAny_call_entry F.slot_tuple_iterator_next hi.typeIs F.entry_tuple_iterator_next ?_ (F.args_tuple_iterator_next_1 _)));show wpAny _ _ (field (Value.ref it) 0 >>= _) _ _ s;refine Qq (wpAny_field gi di (x := Value.ref t) rfl ?_);rw [if_neg (show ¬ ((Value.ref t == Value.none) = true) by intro z; cases z)];refine Qq (wpAny_field gi di (x := Value.int i 0) rfl ?_);refine Qq (wpAny_seqItems gt dt ?_);simp only [Jx, hx'];refine Qq (wpAny_setField gi di (by simp) (Qr ⟨x, rfl, Qr (q _ ?_ (Heap.SameBut.update ..))⟩));refine ⟨_, Wz _ gi (Obj.isFreed_of_fields (Obj.data_mapFields di _)), (Obj.cls_mapFields ..).trans ci, ?_⟩;rw [Obj.data_mapFields di];simp [rawInt]
theorem zAb {it t : Addr} {i : Nat} {its : List Value} {Q : Value -> Shared -> Prop} (hh : A.handled = none) (hi : s.heap.IsTupleIter it t i) (ht : s.heap.IsTuple t its.toArray) (hx : its.length <= i)
  (q : ∀ h' e, Heap.ExtBut it s.heap h' -> (∃ o, h'.get? e = some o /\ o.cls = .type "StopIteration") -> E (.ref e) { s with heap := h' }) : wpAny (model prog w) A (Builtin.SmallTypes.nextOf (.ref it)) Q E s := by
 obtain ⟨oi, gi, ci, di⟩ := id hi;obtain ⟨ot, gt, _, nt, dt⟩ := ht;have hx' : its.toArray[i]? = none := by simpa using hx
 unfold Builtin.SmallTypes.nextOf;refine Qq (wpAny_callSpecial?_slot (name := Str.ofString "__next__") hi.typeIs F.slot_tuple_iterator_next (wpAny_call_entry F.slot_tuple_iterator_next hi.typeIs F.entry_tuple_iterator_next ?_ (F.args_tuple_iterator_next_1 _)));show wpAny _ _ (field (Value.ref it) 0 >>= _) _ _ s;refine Qq (wpAny_field gi di (x := Value.ref t) rfl ?_);rw [if_neg (show ¬ ((Value.ref t == Value.none) = true) by intro z; cases z)];refine Qq (wpAny_field gi di (x := Value.int i 0) rfl ?_);refine Qq (wpAny_seqItems gt dt ?_);simp only [Jx, hx'];refine Qq (wpAny_rule (Qq (wpAny_setField gi di (by simp) (Qq ?_))));simp only [newExc, newTuple];refine Qq (Wb (Qq (m := firstArgMember _ _) (wpAny_of_eq (a := Value.none) ?_ (Wb ?_ (by size_fits)))) (by size_fits))
 ·first | rfl | (simp only [firstArgMember]; rfl)
 simp only [raiseNew];refine Qq (wpAny_handled ?_)
 first | rw [show A.in1.handled = none from hh] | rw [hh]
 exact Qq (Qr (wpAny_throw (q _ _ (((Heap.SameBut.update ..).extBut.push _).push _) ⟨_, Qh _ rfl, rfl⟩)))
theorem zen {k : Kd} {it a : Addr} {i : Nat} {its : List Value} {x : Value} {Q : Value -> Shared -> Prop} (hi : ItAt k s.heap it a i) (hs : SeqIs k s.heap a its) (hx : its[i]? = some x)
  (q : ∀ h', ItAt k h' it a (i + 1) -> Heap.SameBut it s.heap h' -> Q x { s with heap := h' }) : wpAny (model prog w) A (Builtin.SmallTypes.nextOf (.ref it)) Q E s := by
 cases k with
 | l => exact wpAny_nextOf_list_item hi hs (by simpa using hx) q
 | t => exact zuf hi hs hx q
theorem zpf {k : Kd} {it a : Addr} {i : Nat} {its : List Value} {Q : Value -> Shared -> Prop} (hh : A.handled = none) (hi : ItAt k s.heap it a i) (hs : SeqIs k s.heap a its) (hx : its.length <= i)
  (q : ∀ h' e, Heap.ExtBut it s.heap h' -> (∃ o, h'.get? e = some o /\ o.cls = .type "StopIteration") -> E (.ref e) { s with heap := h' }) : wpAny (model prog w) A (Builtin.SmallTypes.nextOf (.ref it)) Q E s := by
 cases k with
 | l => exact wpAny_nextOf_list_end hh hi hs (by simpa using hx) q
 | t => exact zAb hh hi hs hx q
theorem zkt {k : Kd} {a : Addr} {its : List Value} {Q : Value -> Shared -> Prop} (hs : SeqIs k s.heap a its)
  (q : Q (.ref s.heap.objs.size) { s with heap := s.heap.push { cls := .type (ziy k), data := .fields #[.ref a, .int 0 0] } }) : wpAny (model prog w) A (pyIter (.ref a)) Q E s := by
 cases k with
 | l => exact wpAny_pyIter_list hs q
 | t => exact wpAny_pyIter_tuple hs q
theorem zoz {k : Kd} {h : Heap} {a : Addr} : ItAt k (h.push { cls := .type (ziy k), data := .fields #[.ref a, .int 0 0] }) h.objs.size a 0 := by
 cases k with
 | l => exact ⟨_, Qh _ rfl, rfl, rfl⟩
 | t => exact ⟨_, Qh _ rfl, rfl, rfl⟩
end
open AutoSeq1 (wpAny_loadPart')
section
variable {prog : Program} {w : World} {A : Around} {E : Value -> Shared -> Prop} {s : Shared}
theorem zqx {k : Kd} {e it a : Addr} {i : Nat} {its : List Value} {x old : Value} {Q : Value -> Shared -> Prop} (he : IsEnum s.heap e it i old) (hi : ItAt k s.heap it a i) (hs : SeqIs k s.heap a its) (hx : its[i]? = some x) (ne : e ≠ it)
  (q : ∀ h', IsEnumOut h' e it ((i : Int) + 1) x s.heap.objs.size -> ItAt k h' it a (i + 1) -> h'.get? s.heap.objs.size = some { cls := .type "tuple", data := .seq #[.int i s.toks, x] } ->
   (∀ b o, b ≠ e -> b ≠ it -> s.heap.get? b = some o -> h'.get? b = some o) -> Q (.ref s.heap.objs.size) { s with heap := h', toks := s.toks + 1 }) :
  wpAny (model prog w) A (Builtin.«enumerate.__next__» ⟨[.ref e], []⟩) (fun fin s' => ∃ v, fin = .done (.ret v) /\ Q v s') E s := by
 obtain ⟨hp, g, d, tk, os⟩ := s;show wpAny _ _ (field (Value.ref e) 2 >>= _) _ _ _;refine Qq (wpAny_field he rfl (x := Value.ref it) rfl (Qq (zen hi hs hx fun g1 i1 b1 => ?_)))
 replace b1 : Heap.SameBut it hp g1 := b1
 have e1 : IsEnum g1 e it i old := (b1.2 e ne).trans he;refine Qq (wpAny_field (s := ⟨g1, g, d, tk, os⟩) e1 rfl (x := rawInt i) rfl (Qq (wpAny_field (s := ⟨g1, g, d, tk, os⟩) e1 rfl (x := Value.none) rfl ?_)));refine Qq (wpAny_mkInt (Qq (wpAny_setField_rec (s := ⟨g1, g, d, tk + 1, os⟩) e1 (by simp) fun g2 e2 b2 => ?_)))
 replace b2 : Heap.SameBut e g1 g2 := b2
 replace e2 : IsEnum g2 e it ((i : Int) + 1) old := e2
 refine Qq (wpAny_setField_rec (s := ⟨g2, g, d, tk + 1, os⟩) e2 (by simp) fun g3 e3 b3 => ?_)
 replace b3 : Heap.SameBut e g2 g3 := b3
 replace e3 : IsEnum g3 e it ((i : Int) + 1) old := e3
 refine Qq (wpAny_newTuple ?_);have hz : g3.objs.size = hp.objs.size := by rw [b3.1, b2.1, b1.1]
 have el : e < hp.objs.size := Qw he;obtain ⟨oi, gi, _⟩ := hi.obj;have il : it < hp.objs.size := Qw gi;have e4 : IsEnum (g3.push { cls := .type "tuple", data := .seq #[.int i tk, x] }) e it ((i : Int) + 1) old := Qz _ e3;have t4 : (g3.push { cls := .type "tuple", data := .seq #[.int i tk, x] }).get? hp.objs.size = some { cls := .type "tuple", data := .seq #[.int i tk, x] } := by rw [<- hz]; exact Qh _ rfl
 have k4 : ∀ b o, b ≠ e -> b ≠ it -> hp.get? b = some o -> (g3.push { cls := .type "tuple", data := .seq #[.int i tk, x] }).get? b = some o := fun b o h1 h2 h3 =>
  Qz _ (b3.extBut b o h1 (b2.extBut b o h1 (b1.extBut b o h2 h3)))
 have i4 : ItAt k (g3.push { cls := .type "tuple", data := .seq #[.int i tk, x] }) it a (i + 1) := i1.kept fun o h => Qz _ (b3.extBut it o ne.symm (b2.extBut it o ne.symm h));show wpAny _ _ (Builtin.SmallTypes.ownedTupleIsFree (Value.ref e) >>= _) _ _ ⟨g3.push { cls := .type "tuple", data := .seq #[.int i tk, x] }, g, d, tk + 1, os⟩;rw [hz];generalize g3.push { cls := .type "tuple", data := .seq #[.int i tk, x] } = g4 at e4 t4 k4 i4;refine Qq ?_;unfold Builtin.SmallTypes.ownedTupleIsFree;refine Qq (wpAny_field e4 rfl (x := Value.none) rfl (Qr ?_));simp only [if_true];refine Qq (wpAny_rule (Qq (wpAny_field e4 rfl (x := old) rfl (Qq (wpAny_setField_rec e4 (by simp) fun g5 e5 b5 => ?_)))))
 replace b5 : Heap.SameBut e g4 g5 := b5
 replace e5 : IsEnum g5 e it ((i : Int) + 1) x := e5
 refine Qq ?_;unfold Builtin.SmallTypes.ownedTupleHandOut;refine Qq (wpAny_setField_rec e5 (by simp) fun g6 e6 b6 => ?_)
 replace b6 : Heap.SameBut e g5 g6 := b6
 replace e6 : IsEnumOut g6 e it ((i : Int) + 1) x hp.objs.size := e6
 refine wpAny_setField_rec e6 (by simp) fun g7 e7 b7 => ?_
 replace b7 : Heap.SameBut e g6 g7 := b7
 replace e7 : IsEnumOut g7 e it ((i : Int) + 1) x hp.objs.size := e7
 have up : ∀ b o, b ≠ e -> g4.get? b = some o -> g7.get? b = some o := fun b o h1 h2 => b7.extBut b o h1 (b6.extBut b o h1 (b5.extBut b o h1 h2));exact Qq (wpAny_letGo (Qr ⟨_, rfl, q g7 e7 (i4.kept fun o h => up it o ne.symm h) (up _ _ (Wx el) t4) fun b o h1 h2 h3 => up b o h1 (k4 b o h1 h2 h3)⟩))
theorem zqy {k : Kd} {e it a : Addr} {i : Nat} {its : List Value} {x old : Value} {Q : Option Value -> Shared -> Prop} (he : IsEnum s.heap e it i old) (hi : ItAt k s.heap it a i) (hs : SeqIs k s.heap a its) (hx : its[i]? = some x) (ne : e ≠ it)
  (q : ∀ h', IsEnumOut h' e it ((i : Int) + 1) x s.heap.objs.size -> ItAt k h' it a (i + 1) -> h'.get? s.heap.objs.size = some { cls := .type "tuple", data := .seq #[.int i s.toks, x] } ->
   (∀ b o, b ≠ e -> b ≠ it -> s.heap.get? b = some o -> h'.get? b = some o) -> Q (some (.ref s.heap.objs.size)) { s with heap := h', toks := s.toks + 1 }) :
  wpAny (model prog w) A (pyNext (.ref e)) Q E s := by
 have ty : s.TypeIs (.ref e) "enumerate" := ⟨_, he, rfl⟩;unfold pyNext;exact Qq (wpAny_attempt (wpAny_callSpecial?_slot (name := Str.ofString "__next__") ty F.slot_enumerate_next (wpAny_call_entry F.slot_enumerate_next ty F.entry_enumerate_next
   (zqx he hi hs hx ne fun h' a b c d => Qr (q h' a b c d)) (F.args_enumerate_next_1 _))))
theorem zqz {k : Kd} {e it a : Addr} {i : Nat} {its : List Value} {old : Value} {Q : Option Value -> Shared -> Prop} (hh : A.handled = none) (he : IsEnum s.heap e it i old) (hi : ItAt k s.heap it a i) (hs : SeqIs k s.heap a its) (hx : its.length <= i)
  (q : ∀ h', Heap.ExtBut it s.heap h' -> Q none { s with heap := h' }) : wpAny (model prog w) A (pyNext (.ref e)) Q E s := by
 have ty : s.TypeIs (.ref e) "enumerate" := ⟨_, he, rfl⟩;unfold pyNext;refine Qq (wpAny_attempt (wpAny_callSpecial?_slot (name := Str.ofString "__next__") ty F.slot_enumerate_next (wpAny_call_entry F.slot_enumerate_next ty F.entry_enumerate_next ?_ (F.args_enumerate_next_1 _))));show wpAny _ _ (field (Value.ref e) 2 >>= _) _ _ _;refine Qq (wpAny_field he rfl (x := Value.ref it) rfl (Qq (zpf hh hi hs hx fun h' z k1 k2 => ?_)));obtain ⟨o, ho, hc⟩ := k2;exact Qq (wpAny_isInstance (T := "StopIteration") (b := true) ⟨o, ho, hc⟩ isSubtype_stop (Qr (q _ k1)))
theorem zgz (t : Addr) (items : Array Value) (n : Nat) (dct : Option Addr) (sl : Array (Option Value)) :
  Meets (Builtin.«enumerate.__new__» ⟨[.type "enumerate", .ref t], []⟩) (fun _ R s => s.heap.get? t = some { cls := .type "tuple", dict := dct, data := .seq items n, slots := sl } /\
   R (.ok (.ret (.ref (s.heap.push { cls := .type "tuple_iterator", data := .fields #[.ref t, .int 0 0] }).objs.size)))
    { s with heap := (s.heap.push { cls := .type "tuple_iterator", data := .fields #[.ref t, .int 0 0] }).push { cls := .type "enumerate", data := .fields #[.none, .bool false, .ref s.heap.objs.size, rawInt 0, .none, .none] } }) :=
 .of_wp fun prog w A R s h => by
  obtain ⟨hp, g, d, tk, os⟩ := s;obtain ⟨ht, h⟩ := h;have hsub := sub_enumerate;have hT : Heap.IsTuple (Shared.heap ⟨hp, g, d, tk, os⟩) t items := ⟨_, ht, rfl, n, rfl⟩
  wp_walk using wpAny_loadPart' ht
  refine wpAny_stack_any fun st => Qr ?_;split
  ·rename_i c _ _ _ _ _
   cases (c == Value.type "enumerate") <;>
   ·wp_walk using wpAny_loadPart' ht, wpAny_pyIter_tuple hT
    exact ⟨_, rfl, h⟩
  ·wp_walk using wpAny_loadPart' ht, wpAny_pyIter_tuple hT
   exact ⟨_, rfl, h⟩
theorem zro {k : Kd} {a : Addr} {its : List Value} {Q : Value -> Shared -> Prop} (hs : SeqIs k s.heap a its)
  (q : ∀ h', IsEnum h' (s.heap.objs.size + 1) s.heap.objs.size 0 .none -> ItAt k h' s.heap.objs.size a 0 -> (∀ b o, s.heap.get? b = some o -> h'.get? b = some o) -> Q (.ref (s.heap.objs.size + 1)) { s with heap := h' }) :
  wpAny (model prog w) A (call (.type "enumerate") [.ref a]) Q E s := by
 cases k with
 | l => exact call_enumerate_list hs fun h' a b _ d => q h' a b d
 | t =>
  obtain ⟨⟨c, dct, dt, sl⟩, ht, hc, n, hd⟩ := (show s.heap.IsTuple a its.toArray from hs)
  replace hc : c = .type "tuple" := hc
  replace hd : dt = .seq its.toArray n := hd
  subst hc hd;refine callType_new F.called_enumerate (by decide) (F.typeCall_enumerate_1 _) (F.newCall_enumerate_1 _) (fun obj => F.args_object_init_2 obj _) F.entry_enumerate_new (zgz a its.toArray n dct sl) ⟨ht, ?_⟩;have z : (s.heap.push { cls := .type "tuple_iterator", data := .fields #[.ref a, .int 0 0] }).objs.size = s.heap.objs.size + 1 := Jg ..;show _ /\ _;have e1 := Qh (s.heap.push { cls := .type "tuple_iterator", data := .fields #[.ref a, .int 0 0] }) (o := { cls := .type "enumerate", data := .fields #[.none, .bool false, .ref s.heap.objs.size, rawInt 0, .none, .none] }) rfl;rw [z] at e1 ⊢;exact ⟨⟨_, e1, rfl⟩, q _ e1 ⟨_, Qz _ (Qh _ rfl), rfl, rfl⟩ fun b o x => Qz _ (Qz _ x)⟩
end
def ItE (k : Kd) (K : PySem.W.Frag) (a : Addr) : It :=
 ⟨fun i H => ∃ xs x, SqK k K H a xs /\ xs[i]? = some x, fun i H x H' => ∃ p y, H p = none /\ x = .ref p /\ (∀ xs, SqK k K H a xs -> xs[i]? = some y) /\ H' = upd H p (.tup [.int i, y]), fun i H => ∃ xs, SqK k K H a xs /\ xs.length <= i⟩
theorem Inv.seq_inj {X : Cx} {pins : List (Addr × Obj)} {σ : St} {H : Hp} {s : Shared} (I : Inv X pins σ H s) {k : Kd} {a : Addr} {xs ys : List V} (h : SqK k X.K H a xs) (h' : SqK k X.K H a ys) : xs = ys := by
 cases k with
 | l => exact I.list_inj h h'
 | t => exact I.tuple_inj h h'
theorem zpr {P : Program} {w : World} {K : PySem.W.Frag} {elts : List Expr} {x1 : Nat} {tpos : Pos} (k : Kd) (a e it : Addr) (ne : e ≠ it) : znc P w K (.Tuple elts x1 tpos) (ItE k K a) [e, it] e (fun i h => (∃ old, IsEnum h e it i old) /\ ItAt k h it a i) where
 mem := by simp
 obj := fun i h st b hb => by
  obtain ⟨⟨old, q⟩, r⟩ := st;rcases Qy.mp hb with rfl | hb
  ·exact ⟨_, q, fun v z => by cases z⟩
  ·rw [Q3.mp hb]; exact r.obj
 keep := fun i h h' st kk => ⟨let ⟨old, q⟩ := st.1; ⟨old, kk e (by simp) _ q⟩, st.2.kept fun o x => kk it (by simp) o x⟩
 item := by
  intro X hP hw hK hc i pins s σ H E I hf st hg;subst hP hw hK;obtain ⟨⟨old, he⟩, hi⟩ := st;obtain ⟨xs, x, hq, hx⟩ := hg;obtain ⟨its, r, hs, hz⟩ := I.seq hq;obtain ⟨u, e1, ru⟩ := r.get hx;refine zqy he hi hs e1 ne fun h' a1 a2 a3 a4 => ⟨_, rfl, ?_⟩;refine wpAny_letOwnedTupleGo_enum (s := { s with heap := h', toks := s.toks + 1 }) a1 fun h2 b1 b2 => ?_
  replace b2 : Heap.SameBut e h' h2 := b2
  have el : e < s.heap.objs.size := Qw he;have kk : ∀ b o, b ∉ [e, it] -> s.heap.get? b = some o -> h2.get? b = some o := fun b o hb q => by
   simp at hb;exact b2.extBut b o hb.1 (a4 b o hb.1 hb.2 q)
  have tt : h2.get? s.heap.objs.size = some { cls := .type "tuple", data := .seq #[.int i s.toks, u] } := b2.extBut _ _ (Wx el) a3;have fr : H s.heap.objs.size = none := I.hok.fresh (Qx _);refine ⟨.ref s.heap.objs.size, upd H s.heap.objs.size (.tup [.int i, x]), I.turnNew hf kk (Qx _) ?_, rfl, ⟨_, x, fr, rfl, fun ys hy => ?_, rfl⟩, ⟨⟨u, ?_⟩, a2.kept fun o q => b2.extBut it o ne.symm q⟩, fun b hb => ?_⟩
  ·exact ⟨by show 2 <= sizeLine; decide, [.int i s.toks, u], .cons ⟨_, rfl⟩ (.cons ru .nil), ⟨_, tt, rfl, 0, rfl⟩⟩
  ·rw [I.seq_inj hy hq]; exact hx
  ·have : ((i + 1 : Nat) : Int) = (i : Int) + 1 := by push_cast; rfl
   rw [this]; exact b1
  ·rw [zS]
   ·exact (hf b hb).1
   ·rcases Qy.mp hb with rfl | hb
    ·exact Qd el
    ·rw [Q3.mp hb];obtain ⟨o, q, _⟩ := hi.obj;exact Qd (Qw q)
 done := by
  intro X hP hw hK hc i pins s σ H E I hf st hg;subst hP hw hK;obtain ⟨⟨old, he⟩, hi⟩ := st;obtain ⟨xs, hq, hx⟩ := hg;obtain ⟨its, r, hs, hz⟩ := I.seq hq;refine zqz (I.ok.hd hc) he hi hs (by rw [<- r.length]; exact hx) fun h' q => ⟨rfl, I.turnM (t' := s.toks) hf fun b o hb z => q b o (fun y => hb (by simp [y])) z⟩
 self := fun _ _ _ _ _ st h => let ⟨⟨_, he⟩, _⟩ := st; wpAny_pyIter_enum he h
def zCf (k : Kd) (K : PySem.W.Frag) (ta : TA) : TI := fun σ H R => ta σ H fun vs H1 => ∃ a xs, vs = [.ref a] /\ SqK k K H1 a xs /\ R (ItE k K a) H1
theorem zcn : bootBuiltins "enumerate" = some (.type "enumerate") := by first | rfl | decide +kernel
theorem zyw {X : Cx} {elts : List Expr} {x1 : Nat} {tpos : Pos} {l : Expr} {ta : TA} {p pos : Pos} (k : Kd) (hg : Gl X "enumerate") (hm : X.mg "enumerate" = none) (ha : PA X [l] ta) (hs : starEach [l] X.env = [(false, eval l X.env)] := by rfl) :
  PI X (.Tuple elts x1 tpos) (.Call (.Name "enumerate" p) [l] [] pos) (zCf k X.K ta) := by
 intro pins s σ H R I h;refine Call_ (zaf I hg hm zcn (PyProof.Rows.callWith_type1 (thn (ha pos pins s σ H _ I h) fun us s1 ⟨vs, H1, I1, r1, q1⟩ => ?_) hs rfl));obtain ⟨a, xs, rfl, hq, q⟩ := q1;obtain ⟨u, rfl, ru⟩ := Vals.one r1;cases (show u = Value.ref a from ru)
 obtain ⟨its, r, hsq, hz⟩ := I1.seq hq;refine zro hsq fun h' a1 a2 a3 => wpAny_pyIter_enum (s := { s1 with heap := h' }) a1 ?_;refine ⟨s1.heap.objs.size + 1, [s1.heap.objs.size + 1, s1.heap.objs.size], _, _, H1, rfl, I1.kept (t' := s1.toks) a3, zpr k a _ _ (Nat.succ_ne_self _), ⟨⟨_, a1⟩, a2⟩, fun b hb => ?_, q⟩;rcases Qy.mp hb with rfl | hb
 ·exact I1.fpOk (Nat.le_succ _) (I1.hok.fresh (Nat.le_succ _))
 ·rw [Q3.mp hb]; exact I1.fpOk (Qx _) (I1.hok.fresh (Qx _))
open AutoSeq1 (wpAny_loadPart')
structure zfq (h : Heap) (k1 k2 : Kd) (z TI TO i1 i2 l1 l2 : Addr) (f0 : Value) (n : Nat) : Prop where
 zz : IsZip h z TI TO f0
 ti : IsPair h TI (.ref i1) (.ref i2)
 to : ∃ a b, IsPair h TO a b
 a1 : ItAt k1 h i1 l1 n
 a2 : ItAt k2 h i2 l2 n
structure znb (z TI TO i1 i2 : Addr) : Prop where
 TIz : TI ≠ z
 TOz : TO ≠ z
 i1z : i1 ≠ z
 i2z : i2 ≠ z
 TITO : TI ≠ TO
 TIi1 : TI ≠ i1
 TIi2 : TI ≠ i2
 TOi1 : TO ≠ i1
 TOi2 : TO ≠ i2
 i12 : i1 ≠ i2
section
variable {prog : Program} {w : World} {A : Around} {E : Value -> Shared -> Prop} {s : Shared}
theorem zsq {k1 k2 : Kd} {z TI TO i1 i2 l1 l2 : Addr} {n : Nat} {xs ys : List Value} {x y : Value} {Q : Value -> Shared -> Prop} (D : znb z TI TO i1 i2) (Z : zfq s.heap k1 k2 z TI TO i1 i2 l1 l2 .none n)
  (L1 : ∀ h', (∀ b o, b ≠ z -> b ≠ TO -> b ≠ i1 -> b ≠ i2 -> s.heap.get? b = some o -> h'.get? b = some o) -> SeqIs k1 h' l1 xs) (L2 : ∀ h', (∀ b o, b ≠ z -> b ≠ TO -> b ≠ i1 -> b ≠ i2 -> s.heap.get? b = some o -> h'.get? b = some o) -> SeqIs k2 h' l2 ys)
  (hx : xs[n]? = some x) (hy : ys[n]? = some y)
  (q : ∀ h', zfq h' k1 k2 z TI TO i1 i2 l1 l2 (rawInt s.heap.objs.size) (n + 1) -> IsPair h' s.heap.objs.size x y ->
   (∀ c o, c ≠ z -> c ≠ TO -> c ≠ i1 -> c ≠ i2 -> s.heap.get? c = some o -> h'.get? c = some o) -> Q (.ref s.heap.objs.size) { s with heap := h' }) :
  wpAny (model prog w) A (Builtin.«zip.__next__» ⟨[.ref z], []⟩) (fun fin s' => ∃ v, fin = .done (.ret v) /\ Q v s') E s := by
 obtain ⟨zz, ti, ⟨a, b, to⟩, a1, a2⟩ := Z;show wpAny _ _ (field (Value.ref z) 2 >>= _) _ _ _;refine Qq (wpAny_field zz rfl (x := Value.bool false) rfl (Qq (wpAny_field zz rfl (x := Value.ref TI) rfl (Qq (wpAny_seqItems ti rfl (Qq ?_))))));unfold Builtin.SmallTypes.ownedTupleIsFree;refine Qq (wpAny_field zz rfl (x := Value.none) rfl (Qr ?_));simp only [if_true];refine Qq (wpAny_rule (Qq (wpAny_field zz rfl (x := Value.ref TO) rfl (Qq (wpAny_setField_rec zz (by simp) fun g1 z1 b1 => Qq ?_)))))
 replace z1 : IsZip g1 z TI TO .ellipsis := z1
 replace b1 : Heap.SameBut z s.heap g1 := b1
 simp only [List.zipIdx_cons, List.zipIdx_nil, Wg, List.forIn_nil];have K1 : ∀ c o, c ≠ z -> c ≠ TO -> c ≠ i1 -> c ≠ i2 -> s.heap.get? c = some o -> g1.get? c = some o := fun c o h1 _ _ _ e => b1.extBut c o h1 e;refine Qq (Qq (wpAny_onRaise (Qq (zen (s := { s with heap := g1 }) (a1.kept fun o e => b1.extBut _ o D.i1z e) (L1 g1 K1) hx fun g2 j1 b2 => Qr ?_))))
 replace b2 : Heap.SameBut i1 g1 g2 := b2
 have t2 : IsPair g2 TO a b := b2.extBut _ _ D.TOi1 (b1.extBut _ _ D.TOz to);refine Qq (wpAny_seqItems t2 rfl (Qq (wpAny_updateSeq_pair t2 fun g3 t3 b3 => ?_)))
 replace t3 : IsPair g3 TO x b := t3
 replace b3 : Heap.SameBut TO g2 g3 := b3
 refine Qq (wpAny_letGo (Qr ?_));have K3 : ∀ c o, c ≠ z -> c ≠ TO -> c ≠ i1 -> c ≠ i2 -> s.heap.get? c = some o -> g3.get? c = some o := fun c o h1 h2 h3 h4 e => b3.extBut c o h2 (b2.extBut c o h3 (K1 c o h1 h2 h3 h4 e));have a3 : ItAt k2 g3 i2 l2 n := a2.kept fun o e => b3.extBut _ o D.TOi2.symm (b2.extBut _ o D.i12.symm (b1.extBut _ o D.i2z e));refine Qq (Qq (wpAny_onRaise (Qq (zen (s := { s with heap := g3 }) a3 (L2 g3 K3) hy fun g4 j2 b4 => Qr ?_))))
 replace b4 : Heap.SameBut i2 g3 g4 := b4
 have t4 : IsPair g4 TO x b := b4.extBut _ _ D.TOi2 t3;refine Qq (wpAny_seqItems t4 rfl (Qq (wpAny_updateSeq_pair t4 fun g5 t5 b5 => ?_)))
 replace t5 : IsPair g5 TO x y := t5
 replace b5 : Heap.SameBut TO g4 g5 := b5
 refine Qq (wpAny_letGo (Qr (Qr (Qq (wpAny_seqItems t5 rfl (Qq (wpAny_newTuple ?_)))))));have sz : g5.objs.size = s.heap.objs.size := by rw [b5.1, b4.1, b3.1, b2.1, b1.1]
 have z5 : IsZip g5 z TI TO .ellipsis := b5.extBut _ _ D.TOz.symm (b4.extBut _ _ D.i2z.symm (b3.extBut _ _ D.TOz.symm (b2.extBut _ _ D.i1z.symm z1)));have K5 : ∀ c o, c ≠ z -> c ≠ TO -> c ≠ i1 -> c ≠ i2 -> s.heap.get? c = some o -> g5.get? c = some o := fun c o h1 h2 h3 h4 e => b5.extBut c o h2 (b4.extBut c o h4 (K3 c o h1 h2 h3 h4 e));have m1 : ItAt k1 g5 i1 l1 (n + 1) := j1.kept fun o e => b5.extBut _ o D.TOi1.symm (b4.extBut _ o D.i12 (b3.extBut _ o D.TOi1.symm e));have m2 : ItAt k2 g5 i2 l2 (n + 1) := j2.kept fun o e => b5.extBut _ o D.TOi2.symm e;have zl : z < g5.objs.size := Qw z5;show wpAny _ _ (Builtin.SmallTypes.ownedTupleHandOut (Value.ref z) (Value.ref g5.objs.size) >>= _) _ _ _;refine Qq ?_;unfold Builtin.SmallTypes.ownedTupleHandOut;have z6 : IsZip (g5.push { cls := .type "tuple", data := .seq #[x, y] }) z TI TO .ellipsis := Qz _ z5;refine Qq (wpAny_setField_rec z6 (by simp) fun g7 z7 b7 => wpAny_setField_rec z7 (by simp) fun g8 z8 b8 => ?_)
 replace z8 : IsZip g8 z TI TO (rawInt g5.objs.size) := z8
 replace b8 : Heap.SameBut z g7 g8 := b8
 replace b7 : Heap.SameBut z (g5.push { cls := .type "tuple", data := .seq #[x, y] }) g7 := b7
 have up : ∀ c o, c ≠ z -> g5.get? c = some o -> g8.get? c = some o := fun c o h e => b8.extBut _ _ h (b7.extBut _ _ h (Qz _ e));have t8 : IsPair g8 g5.objs.size x y := b8.extBut _ _ (Wx zl) (b7.extBut _ _ (Wx zl) (Qh _ rfl));rw [sz] at z8 t8;refine Qr ⟨_, rfl, ?_⟩;show Q (Value.ref g5.objs.size) _;rw [sz];exact q g8 ⟨z8, up _ _ D.TIz (K5 _ _ D.TIz D.TITO D.TIi1 D.TIi2 ti), ⟨_, _, up _ _ D.TOz t5⟩, m1.kept fun o e => up _ o D.i1z e, m2.kept fun o e => up _ o D.i2z e⟩ t8 fun c o h1 h2 h3 h4 e => up c o h1 (K5 c o h1 h2 h3 h4 e)
theorem zsr {k1 k2 : Kd} {z TI TO i1 i2 l1 l2 : Addr} {n : Nat} {xs ys : List Value} {x y : Value} {Q : Option Value -> Shared -> Prop} (D : znb z TI TO i1 i2) (Z : zfq s.heap k1 k2 z TI TO i1 i2 l1 l2 .none n)
  (L1 : ∀ h', (∀ b o, b ≠ z -> b ≠ TO -> b ≠ i1 -> b ≠ i2 -> s.heap.get? b = some o -> h'.get? b = some o) -> SeqIs k1 h' l1 xs) (L2 : ∀ h', (∀ b o, b ≠ z -> b ≠ TO -> b ≠ i1 -> b ≠ i2 -> s.heap.get? b = some o -> h'.get? b = some o) -> SeqIs k2 h' l2 ys)
  (hx : xs[n]? = some x) (hy : ys[n]? = some y)
  (q : ∀ h', zfq h' k1 k2 z TI TO i1 i2 l1 l2 (rawInt s.heap.objs.size) (n + 1) -> IsPair h' s.heap.objs.size x y ->
   (∀ c o, c ≠ z -> c ≠ TO -> c ≠ i1 -> c ≠ i2 -> s.heap.get? c = some o -> h'.get? c = some o) -> Q (some (.ref s.heap.objs.size)) { s with heap := h' }) :
  wpAny (model prog w) A (pyNext (.ref z)) Q E s := by
 have ty : s.TypeIs (.ref z) "zip" := ⟨_, Z.zz, rfl⟩;unfold pyNext;exact Qq (wpAny_attempt (wpAny_callSpecial?_slot (name := Str.ofString "__next__") ty F.slot_zip_next (wpAny_call_entry F.slot_zip_next ty F.entry_zip_next
   (zsq D Z L1 L2 hx hy fun h' a b c => Qr (q h' a b c)) (F.args_zip_next_1 _))))
theorem zss {k1 k2 : Kd} {z TI TO i1 i2 l1 l2 : Addr} {n : Nat} {xs : List Value} {Q : Option Value -> Shared -> Prop} (hh : A.handled = none) (D : znb z TI TO i1 i2) (Z : zfq s.heap k1 k2 z TI TO i1 i2 l1 l2 .none n)
  (L1 : ∀ h', (∀ b o, b ≠ z -> b ≠ TO -> b ≠ i1 -> b ≠ i2 -> s.heap.get? b = some o -> h'.get? b = some o) -> SeqIs k1 h' l1 xs) (hx : xs.length <= n)
  (q : ∀ h', (∀ c o, c ≠ z -> c ≠ TO -> c ≠ i1 -> c ≠ i2 -> s.heap.get? c = some o -> h'.get? c = some o) -> Q none { s with heap := h' }) : wpAny (model prog w) A (pyNext (.ref z)) Q E s := by
 have ty : s.TypeIs (.ref z) "zip" := ⟨_, Z.zz, rfl⟩;obtain ⟨zz, ti, ⟨a, b, to⟩, a1, a2⟩ := Z;unfold pyNext;refine Qq (wpAny_attempt (wpAny_callSpecial?_slot (name := Str.ofString "__next__") ty F.slot_zip_next (wpAny_call_entry F.slot_zip_next ty F.entry_zip_next ?_ (F.args_zip_next_1 _))));show wpAny _ _ (field (Value.ref z) 2 >>= _) _ _ _;refine Qq (wpAny_field zz rfl (x := Value.bool false) rfl (Qq (wpAny_field zz rfl (x := Value.ref TI) rfl (Qq (wpAny_seqItems ti rfl (Qq ?_))))));unfold Builtin.SmallTypes.ownedTupleIsFree;refine Qq (wpAny_field zz rfl (x := Value.none) rfl (Qr ?_));simp only [if_true];refine Qq (wpAny_rule (Qq (wpAny_field zz rfl (x := Value.ref TO) rfl (Qq (wpAny_setField_rec zz (by simp) fun g1 z1 b1 => Qq ?_)))))
 replace z1 : IsZip g1 z TI TO .ellipsis := z1
 replace b1 : Heap.SameBut z s.heap g1 := b1
 simp only [List.zipIdx_cons, List.zipIdx_nil, Wg, List.forIn_nil];have K1 : ∀ c o, c ≠ z -> c ≠ TO -> c ≠ i1 -> c ≠ i2 -> s.heap.get? c = some o -> g1.get? c = some o := fun c o h1 _ _ _ e => b1.extBut c o h1 e;refine Qq (Qq (wpAny_onRaise (Qq (zpf (s := { s with heap := g1 }) hh (a1.kept fun o e => b1.extBut _ o D.i1z e) (L1 g1 K1) hx fun g2 e b2 he => ?_))))
 replace b2 : Heap.ExtBut i1 g1 g2 := b2
 obtain ⟨oe, hoe, hce⟩ := he;have z2 : IsZip g2 z TI TO .ellipsis := b2 _ _ D.i1z.symm z1;have ez : e ≠ z := fun x => by subst x; rw [z2] at hoe; cases hoe; simp at hce
 refine wpAny_setField_rec z2 (by simp) fun g3 _ b3 => ?_
 replace b3 : Heap.SameBut z g2 g3 := b3
 refine Qq (wpAny_isInstance (T := "StopIteration") (b := true) ⟨oe, b3.extBut _ _ ez hoe, hce⟩ isSubtype_stop (Qr (q g3 fun c o h1 h2 h3 h4 x => b3.extBut _ _ h1 (b2 _ _ h3 (b1.extBut _ _ h1 x)))))
theorem zCp {elts : List Expr} {x1 : Nat} {pos : Pos} {z TI TO T : Addr} {Q : Unit -> Shared -> Prop} (hz : IsZip s.heap z TI TO (rawInt T))
  (q : ∀ h', IsZip h' z TI TO .none -> Heap.SameBut z s.heap h' -> Q () { s with heap := h' }) : wpAny (model prog w) A (letOwnedTupleGo (.Tuple elts x1 pos) (.ref z) (.ref T)) Q E s := wpAny_letOwnedTupleGo_zip hz q
abbrev zp1 (k1 : Kd) (h : Heap) (l1 : Addr) : Heap := h.push { cls := .type (ziy k1), data := .fields #[.ref l1, .int 0 0] }
abbrev zp2 (k1 k2 : Kd) (h : Heap) (l1 l2 : Addr) : Heap := (zp1 k1 h l1).push { cls := .type (ziy k2), data := .fields #[.ref l2, .int 0 0] }
abbrev zp3 (k1 k2 : Kd) (h : Heap) (l1 l2 : Addr) : Heap := (zp2 k1 k2 h l1 l2).push { cls := .type "tuple", data := .seq #[.ref h.objs.size, .ref (zp1 k1 h l1).objs.size] }
abbrev zp4 (k1 k2 : Kd) (h : Heap) (l1 l2 : Addr) : Heap := (zp3 k1 k2 h l1 l2).push { cls := .type "tuple", data := .seq #[.none, .none] }
abbrev zp5 (k1 k2 : Kd) (h : Heap) (l1 l2 : Addr) : Heap := (zp4 k1 k2 h l1 l2).push { cls := .type "zip", data := .fields #[.none, .bool false, .bool false, .ref (zp2 k1 k2 h l1 l2).objs.size, .ref (zp3 k1 k2 h l1 l2).objs.size] }
theorem zxm (k1 k2 : Kd) (l1 l2 : Addr) (xs ys : List Value) :
  Meets (Builtin.«zip.__new__» ⟨[.type "zip", .ref l1, .ref l2], []⟩) (fun _ R s => SeqIs k1 s.heap l1 xs /\ SeqIs k2 s.heap l2 ys /\
   R (.ok (.ret (.ref (zp4 k1 k2 s.heap l1 l2).objs.size))) { s with heap := zp5 k1 k2 s.heap l1 l2 }) :=
 .of_wp fun prog w A R s h => by
  obtain ⟨hp, g, d, tk, os⟩ := s;obtain ⟨h1, h2, h⟩ := h;have hsub := sub_zip;have hL1 : SeqIs k1 (Shared.heap ⟨hp, g, d, tk, os⟩) l1 xs := h1;have hL2 : SeqIs k2 (Shared.heap ⟨zp1 k1 hp l1, g, d, tk, os⟩) l2 ys := h2.kept fun o e => Qz _ e
  wp_walk using zkt hL1, zkt hL2
  exact ⟨_, rfl, h⟩
theorem zvp {k1 k2 : Kd} {l1 l2 : Addr} {xs ys : List Value} {Q : Value -> Shared -> Prop} (h1 : SeqIs k1 s.heap l1 xs) (h2 : SeqIs k2 s.heap l2 ys)
  (q : ∀ h', zfq h' k1 k2 (s.heap.objs.size + 4) (s.heap.objs.size + 2) (s.heap.objs.size + 3) s.heap.objs.size (s.heap.objs.size + 1) l1 l2 .none 0 ->
   (∀ c o, s.heap.get? c = some o -> h'.get? c = some o) -> Q (.ref (s.heap.objs.size + 4)) { s with heap := h' }) :
  wpAny (model prog w) A (call (.type "zip") [.ref l1, .ref l2]) Q E s := by
 refine callType_new F.called_zip (by decide) (F.typeCall_zip_2 _ _) (F.newCall_zip_2 _ _) (fun obj => F.args_object_init_3 obj _ _) F.entry_zip_new (zxm k1 k2 l1 l2 xs ys) ⟨h1, h2, ?_⟩;have z1 : (zp1 k1 s.heap l1).objs.size = s.heap.objs.size + 1 := Jg ..;have z2 : (zp2 k1 k2 s.heap l1 l2).objs.size = s.heap.objs.size + 2 := by rw [Jg, z1]
 have z3 : (zp3 k1 k2 s.heap l1 l2).objs.size = s.heap.objs.size + 3 := by rw [Jg, z2]
 have z4 : (zp4 k1 k2 s.heap l1 l2).objs.size = s.heap.objs.size + 4 := by rw [Jg, z3]
 have u : ∀ {h : Heap} {o : Obj} {b : Addr} {v : Obj}, h.get? b = some v -> (h.push o).get? b = some v := fun e => Qz _ e;have g5 : (zp5 k1 k2 s.heap l1 l2).get? (zp4 k1 k2 s.heap l1 l2).objs.size = some _ := Qh _ rfl;have g4 : (zp5 k1 k2 s.heap l1 l2).get? (zp3 k1 k2 s.heap l1 l2).objs.size = some _ := u (Qh _ rfl);have g3 : (zp5 k1 k2 s.heap l1 l2).get? (zp2 k1 k2 s.heap l1 l2).objs.size = some _ := u (u (Qh _ rfl));have g2 : ItAt k2 (zp5 k1 k2 s.heap l1 l2) (zp1 k1 s.heap l1).objs.size l2 0 := (zoz (k := k2) (h := zp1 k1 s.heap l1) (a := l2)).kept fun o e => u (u (u e));have g1 : ItAt k1 (zp5 k1 k2 s.heap l1 l2) s.heap.objs.size l1 0 := (zoz (k := k1) (h := s.heap) (a := l1)).kept fun o e => u (u (u (u e)));show _ /\ _;rw [z2, z3, z4] at g5;rw [z1, z2] at g3;rw [z3] at g4;rw [z1] at g2;rw [z4];exact ⟨⟨_, g5, rfl⟩, q _ ⟨g5, g3, ⟨_, _, g4⟩, g1, g2⟩ fun c o x => u (u (u (u (u x))))⟩
end
def ItZ (k1 k2 : Kd) (K : PySem.W.Frag) (a b : Addr) : It :=
 ⟨fun i H => ∃ xs ys x y, SqK k1 K H a xs /\ SqK k2 K H b ys /\ xs[i]? = some x /\ ys[i]? = some y,
  fun i H v H' => ∃ p x y, H p = none /\ v = .ref p /\ (∀ xs, SqK k1 K H a xs -> xs[i]? = some x) /\ (∀ ys, SqK k2 K H b ys -> ys[i]? = some y) /\ H' = upd H p (.tup [x, y]),
  fun i H => ∃ xs, SqK k1 K H a xs /\ xs.length <= i⟩
theorem Inv.seq_ne {X : Cx} {pins : List (Addr × Obj)} {σ : St} {H : Hp} {s : Shared} (I : Inv X pins σ H s) {k : Kd} {a b : Addr} {xs : List V} (h : SqK k X.K H a xs) (f : zbi X pins H b) : a ≠ b := by
 rintro rfl;have hn := f.1;have young : ∀ o, X.K.lookup a = some o -> False := fun o e => by
  have e1 := I.mod.kin a o e;rcases f.2.2.2.1 with z | z
  ·exact I.ok.noex a o e1 z
  ·exact absurd (Q2 (Qw e1) (Qc I.ok.bsz z)) (Js _)
 cases k with
 | l =>
  rcases h with h | ⟨o, _, _, e, _⟩
  ·rcases h with h | ⟨o, h⟩ <;> (rw [hn] at h; cases h)
  ·exact young o e
 | t =>
  rcases h with h | ⟨o, _, _, e, _⟩
  ·rcases h with h | ⟨o, h⟩ <;> (rw [hn] at h; cases h)
  ·exact young o e
theorem zsw {P : Program} {w : World} {K : PySem.W.Frag} {elts : List Expr} {x1 : Nat} {tpos : Pos} (k1 k2 : Kd) (a b z TI TO i1 i2 : Addr) (D : znb z TI TO i1 i2) :
  znc P w K (.Tuple elts x1 tpos) (ItZ k1 k2 K a b) [z, TI, TO, i1, i2] z (fun i h => zfq h k1 k2 z TI TO i1 i2 a b .none i) where
 mem := by simp
 obj := fun i h st c hc => by
  obtain ⟨zz, ti, ⟨u, v, to⟩, a1, a2⟩ := st;simp at hc;rcases hc with rfl | rfl | rfl | rfl | rfl
  ·exact ⟨_, zz, fun v z => by cases z⟩
  ·exact ⟨_, ti, fun v z => by cases z⟩
  ·exact ⟨_, to, fun v z => by cases z⟩
  ·exact a1.obj
  ·exact a2.obj
 keep := fun i h h' st kk => by
  obtain ⟨zz, ti, ⟨u, v, to⟩, a1, a2⟩ := st;exact ⟨kk z (by simp) _ zz, kk TI (by simp) _ ti, ⟨u, v, kk TO (by simp) _ to⟩, a1.kept fun o e => kk i1 (by simp) o e, a2.kept fun o e => kk i2 (by simp) o e⟩
 item := by
  intro X hP hw hK hc i pins s σ H E I hf st hg;subst hP hw hK;obtain ⟨xs, ys, x, y, hq1, hq2, hx, hy⟩ := hg;obtain ⟨its1, r1, s1, _⟩ := I.seq hq1;obtain ⟨its2, r2, s2, _⟩ := I.seq hq2;obtain ⟨u1, e1, ru1⟩ := r1.get hx;obtain ⟨u2, e2, ru2⟩ := r2.get hy;have nz := hf z (by simp);have nO := hf TO (by simp);have n1 := hf i1 (by simp);have n2 := hf i2 (by simp);refine zsr D st (fun h' kk => s1.kept fun o e => kk a o (I.seq_ne hq1 nz) (I.seq_ne hq1 nO) (I.seq_ne hq1 n1) (I.seq_ne hq1 n2) e)
   (fun h' kk => s2.kept fun o e => kk b o (I.seq_ne hq2 nz) (I.seq_ne hq2 nO) (I.seq_ne hq2 n1) (I.seq_ne hq2 n2) e) e1 e2 fun h' c1 c2 c3 => ⟨_, rfl, ?_⟩
  refine zCp (s := { s with heap := h' }) c1.zz fun h2 d1 d2 => ?_
  replace d2 : Heap.SameBut z h' h2 := d2
  have zl : z < s.heap.objs.size := Qw st.zz;have lt : ∀ c ∈ [z, TI, TO, i1, i2], c < s.heap.objs.size := fun c hc => by
   obtain ⟨zz, ti, ⟨u, v, to⟩, a1, a2⟩ := st;simp at hc;rcases hc with rfl | rfl | rfl | rfl | rfl
   ·exact zl
   ·exact Qw ti
   ·exact Qw to
   ·obtain ⟨o, e, _⟩ := a1.obj; exact Qw e
   ·obtain ⟨o, e, _⟩ := a2.obj; exact Qw e
  have kk : ∀ c o, c ∉ [z, TI, TO, i1, i2] -> s.heap.get? c = some o -> h2.get? c = some o := fun c o hc q => by
   simp at hc;exact d2.extBut c o hc.1 (c3 c o hc.1 hc.2.2.1 hc.2.2.2.1 hc.2.2.2.2 q)
  have tt : IsPair h2 s.heap.objs.size u1 u2 := d2.extBut _ _ (Wx zl) c2;have fr : H s.heap.objs.size = none := I.hok.fresh (Qx _);refine ⟨.ref s.heap.objs.size, upd H s.heap.objs.size (.tup [x, y]), I.turnNew (t' := s.toks) hf kk (Qx _) ?_, rfl, ⟨_, x, y, fr, rfl, fun vs hv => ?_, fun vs hv => ?_, rfl⟩, ?_, fun c hc => ?_⟩
  ·exact ⟨by show 2 <= sizeLine; decide, [u1, u2], .cons ru1 (.cons ru2 .nil), ⟨_, tt, rfl, 0, rfl⟩⟩
  ·rw [I.seq_inj hv hq1]; exact hx
  ·rw [I.seq_inj hv hq2]; exact hy
  ·obtain ⟨zz, ti, ⟨u, v, to⟩, a1, a2⟩ := c1;exact ⟨d1, d2.extBut _ _ D.TIz ti, ⟨u, v, d2.extBut _ _ D.TOz to⟩, a1.kept fun o e => d2.extBut _ o D.i1z e, a2.kept fun o e => d2.extBut _ o D.i2z e⟩
  ·rw [zS (Qd (lt c hc))];exact (hf c hc).1
 done := by
  intro X hP hw hK hc i pins s σ H E I hf st hg;subst hP hw hK;obtain ⟨xs, hq1, hx⟩ := hg;obtain ⟨its1, r1, s1, _⟩ := I.seq hq1;have nz := hf z (by simp);have nO := hf TO (by simp);have n1 := hf i1 (by simp);have n2 := hf i2 (by simp);exact zss (I.ok.hd hc) D st (fun h' kk => s1.kept fun o e => kk a o (I.seq_ne hq1 nz) (I.seq_ne hq1 nO) (I.seq_ne hq1 n1) (I.seq_ne hq1 n2) e) (by rw [<- r1.length]; exact hx)
   fun h' kk => ⟨rfl, I.turnM (t' := s.toks) hf fun c o hc q => by simp at hc; exact kk c o hc.1 hc.2.2.1 hc.2.2.2.1 hc.2.2.2.2 q⟩
 self := fun _ _ _ _ _ st h => wpAny_pyIter_zip st.zz h
def zIe (k1 k2 : Kd) (K : PySem.W.Frag) (ta : TA) : TI := fun σ H R => ta σ H fun vs H1 => ∃ a b xs ys, vs = [.ref a, .ref b] /\ SqK k1 K H1 a xs /\ SqK k2 K H1 b ys /\ R (ItZ k1 k2 K a b) H1
theorem zrp : bootBuiltins "zip" = some (.type "zip") := by first | rfl | decide +kernel
theorem zFw (n : Nat) : znb (n + 4) (n + 2) (n + 3) n (n + 1) := by
 refine ⟨?_, ?_, ?_, ?_, ?_, ?_, ?_, ?_, ?_, ?_⟩ <;> (intro z; have z' : (_ : Nat) = _ := z; omega)
theorem zDl {X : Cx} {elts : List Expr} {x1 : Nat} {tpos : Pos} {l m : Expr} {ta : TA} {p pos : Pos} (k1 k2 : Kd) (hg : Gl X "zip") (hm : X.mg "zip" = none) (ha : PA X [l, m] ta)
  (hs : starEach [l, m] X.env = [(false, eval l X.env), (false, eval m X.env)] := by rfl) (hs2 : starEach [m] X.env = [(false, eval m X.env)] := by rfl) :
  PI X (.Tuple elts x1 tpos) (.Call (.Name "zip" p) [l, m] [] pos) (zIe k1 k2 X.K ta) := by
 intro pins s σ H R I h;refine Call_ (zaf I hg hm zrp (PyProof.Rows.callWith_type1 (thn (ha pos pins s σ H _ I h) fun us s1 ⟨vs, H1, I1, r1, q1⟩ => ?_) (by rw [hs, hs2]) (by rw [hs2]; rfl)));obtain ⟨a, b, xs, ys, rfl, hq1, hq2, q⟩ := q1;obtain ⟨u, v, rfl, ru, rv⟩ := Vals.two r1;cases (show u = Value.ref a from ru)
 cases (show v = Value.ref b from rv)
 obtain ⟨its1, _, t1, _⟩ := I1.seq hq1;obtain ⟨its2, _, t2, _⟩ := I1.seq hq2;refine zvp t1 t2 fun h' c1 c2 => wpAny_pyIter_zip (s := { s1 with heap := h' }) c1.zz ?_;refine ⟨_, [s1.heap.objs.size + 4, s1.heap.objs.size + 2, s1.heap.objs.size + 3, s1.heap.objs.size, s1.heap.objs.size + 1], _, _, H1, rfl, I1.kept (t' := s1.toks) c2,
  zsw k1 k2 a b _ _ _ _ _ (zFw s1.heap.objs.size), c1, fun c hc => ?_, q⟩
 have le : s1.heap.objs.size <= c := by
  simp at hc;rcases hc with rfl | rfl | rfl | rfl | rfl
  ·exact Nat.le_add_right _ _
  ·exact Nat.le_add_right _ _
  ·exact Nat.le_add_right _ _
  ·exact Qx _
  ·exact Nat.le_add_right _ _
 exact I1.fpOk le (I1.hok.fresh le)
structure Src (K : PySem.W.Frag) (mg : Str -> Option Value) (x : Str) (st : Stmt) (ps : List Str) : Prop where
 ex : ∃ f fd, Fun K x x st f fd /\ Binds K fd ps [] /\ mg x = some (.ref f)
structure Def (P : Program) (w : World) (K : PySem.W.Frag) (mg : Str -> Option Value) (base : Heap) (k : Nat) (x : Str) (ps : List Str) (sp : Sp) : Prop where
 ex : ∃ f fd, v9 P w K mg base CX0 k f fd ps sp /\ Binds K fd ps [] /\ mg x = some (.ref f) /\ PySem.W.keepIn K (.ref f) = true
theorem Src.def {P : Program} {w : World} {K : PySem.W.Frag} {mg : Str -> Option Value} {base : Heap} {k : Nat} {x : Str} {st : Stmt} {N ps : List Str} {sp : Sp} (S : Src K mg x st ps) (sc : zR N ps (zH st)) (len : ∀ vs H Q E, sp vs H Q E -> vs.length = ps.length)
  (hbody : ∀ (f : Addr) (cdv : Value) (A : Around) (outer : List Env) (s : Shared) (H : Hp) (vs : List V) (Q : VK) (E : XK), Room k (A.deeper (envOfC x (zH st) s.heap.objs.size f cdv)) -> sp vs H Q E ->
   ∃ t, PSs (xU CX0 P w K mg base N x (zH st) f cdv A outer s H E).nox (xJ st) t /\ t { nx := fun _ H' => Q .non H', rt := Q } (qM N vs) H) : Def P w K mg base (k + 1) x ps sp := by
 obtain ⟨f, fd, F, b, m⟩ := S.ex;exact ⟨f, fd, F.ok sc len (hbody f), b, m, F.kp⟩
theorem yC {X : Cx} {k : Nat} {x : Str} {ps : List Str} {sp : Sp} {e : Expr} {es : List Expr} {t : TA} {p pos : Pos} (D : Def X.prog X.w X.K X.mg X.base k x ps sp) (hr : Room k X.A) (hg : Gl X x) (ha : PA X (e :: es) t)
  (hdb : (x == ("__debug__" : Str)) = false := by decide) (he : starEach (e :: es) X.env = (false, eval e X.env) :: starEach es X.env := by rfl) (hpl : (backTo pos (starEach es X.env)).any (·.1) = false := by rfl) :
  PE X (.Call (.Name x p) (e :: es) [] pos) (zic sp [] E0 t) := by
 obtain ⟨f, fd, F, b, m, kp⟩ := D.ex;exact zhm F hr hg m kp b .nil zBy ha hdb he hpl
theorem Same.tup {K : PySem.W.Frag} {H H' : Hp} {a : Addr} {xs : List V} (e : Same H H') (h : SqT K H a xs) : SqT K H' a xs := by
 rcases h with (h | ⟨o, h⟩) | h
 ·exact .inl (.inl (e _ _ h))
 ·exact .inl (.inr ⟨o, e _ _ h⟩)
 ·exact .inr h
theorem Same.seqK {K : PySem.W.Frag} {H H' : Hp} {k : Kd} {a : Addr} {xs : List V} (e : Same H H') (h : SqK k K H a xs) : SqK k K H' a xs := by
 cases k with
 | l => exact e.seq h
 | t => exact e.tup h
theorem Same.new {H : Hp} {p : Addr} {o : HO} (h : H p = none) : Same H (upd H p o) := fun b u e => by rw [zS (yD e h)]; exact e
theorem SqK.or {K : PySem.W.Frag} {H : Hp} {k : Kd} {a : Addr} {xs : List V} (h : SqK k K H a xs) : SqL K H a xs \/ SqT K H a xs := by
 cases k with
 | l => exact .inl h
 | t => exact .inr h
theorem Paired.at {α β : Type} {F : α -> β -> Prop} : ∀ {l₁ : List α} {l₂ : List β}, Paired F l₁ l₂ -> ∀ {i : Nat} {a : α}, l₁[i]? = some a -> ∃ b, l₂[i]? = some b /\ F a b
 | _, _, .nil, i, a, e => by simp at e
 | _, _, .cons r t, 0, a, e => by simp at e; subst e; exact ⟨_, rfl, r⟩
 | _, _, .cons r t, i + 1, a, e => by
  obtain ⟨b, h1, h2⟩ := Paired.at t (i := i) (by simpa using e);exact ⟨b, by simpa using h1, h2⟩
theorem Paired.snoc {α β : Type} {F : α -> β -> Prop} : ∀ {l₁ : List α} {l₂ : List β}, Paired F l₁ l₂ -> ∀ {a : α} {b : β}, F a b -> Paired F (l₁ ++ [a]) (l₂ ++ [b])
 | _, _, .nil, _, _, h => .cons h .nil
 | _, _, .cons r t, _, _, h => .cons r (Paired.snoc t h)
theorem zW {α : Type} {l : List α} {i : Nat} {a : α} (h : l[i]? = some a) : l.take (i + 1) = l.take i ++ [a] := by
 rw [List.take_add_one, h]; rfl
def ItK (k : Kd) (K : PySem.W.Frag) (a : Addr) : It := match k with | .l => Itl K a | .t => Itt K a
def zFo (k : Kd) (K : PySem.W.Frag) (tl : TE) : TI := fun σ H R => tl σ H fun x H1 => ∃ a, x = .ref a /\ (∃ xs, SqK k K H1 a xs) /\ R (ItK k K a) H1
theorem zDn {X : Cx} {tg : Expr} (k : Kd) {l : Expr} {tl : TE} (hl : PE X l tl) : PI X tg l (zFo k X.K tl) := by
 cases k with
 | l => exact zyv hl
 | t => exact zDm hl
theorem zEd {k : Kd} {K : PySem.W.Frag} {H : Hp} {a : Addr} {xs : List V} {i : Nat} (h : SqK k K H a xs) (hi : i < xs.length) : (ItK k K a).go i H := by
 cases k with
 | l => exact ⟨xs, xs[i], h, by simp [hi]⟩
 | t => exact ⟨xs, xs[i], h, by simp [hi]⟩
theorem zum {k : Kd} {K : PySem.W.Frag} {H : Hp} {a : Addr} {xs : List V} {i : Nat} (h : SqK k K H a xs) (hi : xs.length <= i) : (ItK k K a).stop i H := by
 cases k with
 | l => exact ⟨xs, h, hi⟩
 | t => exact ⟨xs, h, hi⟩
theorem zzq {k : Kd} {K : PySem.W.Frag} {H H' : Hp} {a : Addr} {xs : List V} {i : Nat} {x : V} (h : SqK k K H a xs) (y : (ItK k K a).yld i H x H') : H' = H /\ xs[i]? = some x := by
 cases k with
 | l => exact ⟨y.1, y.2 xs h⟩
 | t => exact ⟨y.1, y.2 xs h⟩
theorem wY {k : Kd} {K : PySem.W.Frag} {a : Addr} {xs : List V} {g : TG} {tt : TT} {te : TE} {fin : List V -> Hp -> Prop} {σ : St} {H : Hp} (S : St -> Prop) (Pv : Nat -> List V -> Hp -> Prop) (hσ : S σ) (h0 : Pv 0 [] H) (hz : xs.length < sizeLine)
  (hl : ∀ i ys H, i <= xs.length -> Pv i ys H -> SqK k K H a xs)
  (hs : ∀ (i : Nat) (x : V) (ys : List V) (σ : St) (H : Hp) (N : List V -> St -> Hp -> Prop), xs[i]? = some x -> S σ -> Pv i ys H -> (∀ ys' σ' H', S σ' -> Pv (i + 1) ys' H' -> ys'.length <= ys.length + 1 -> N ys' σ' H') ->
   g x σ H fun σ2 H2 => tt σ2 H2 fun b H3 => if b = true then te σ2 H3 fun y H4 => N (ys ++ [y]) σ2 H4 else N ys σ2 H3)
  (hd : ∀ ys H, Pv xs.length ys H -> fin ys H) : ∃ W, zef (ItK k K a) g tt te fin W /\ ∃ m, W 0 m [] σ H := by
 refine ⟨fun i m ys σ H => m = xs.length - i /\ i <= xs.length /\ ys.length <= i /\ S σ /\ Pv i ys H, ?_, xs.length, by simp, Jw _, Qx _, hσ, h0⟩;rintro i m ys σ H ⟨rfl, hi, hy, hS, p⟩;have q := hl i ys H hi p;by_cases hlt : i < xs.length
 ·refine .inr ⟨zEd q hlt, by lia, fun x H' y => ?_⟩;obtain ⟨e, hy2⟩ := zzq q y;subst e;have := hs i x ys σ H' (fun ys' σ' H'' => ∃ m', m' < xs.length - i /\ m' = xs.length - (i + 1) /\ i + 1 <= xs.length /\ ys'.length <= i + 1 /\ S σ' /\ Pv (i + 1) ys' H'') hy2 hS p (fun ys' σ' H'' a b c => ⟨_, by lia, rfl, hlt, by lia, a, b⟩);exact this
 ·have e : i = xs.length := by lia
  subst e;exact .inl ⟨zum q (Qx _), by lia, hd ys H p⟩
theorem zur {k : Kd} {K : PySem.W.Frag} {a : Addr} {xs : List V} {g : TG} {tb : TS} {D : gP} {σ : St} {H : Hp} (Pv : Nat -> St -> Hp -> Prop) (h0 : Pv 0 σ H) (hl : ∀ i σ H, i <= xs.length -> Pv i σ H -> SqK k K H a xs)
  (hs : ∀ (i : Nat) x p σ H, xs[i]? = some x -> Pv i σ H -> H p = none -> g (.ref p) σ (upd H p (.tup [.int i, x])) fun σ2 H2 => tb { D with nx := Pv (i + 1), ct := Pv (i + 1), bk := D.nx } σ2 H2) (hd : ∀ σ H, Pv xs.length σ H -> D.nx σ H) :
  ∃ W : Nat -> Nat -> St -> Hp -> Prop, (∃ m, W 0 m σ H) /\ ∀ i m σ H, W i m σ H ->
   ((ItE k K a).stop i H /\ D.nx σ H) \/ ((ItE k K a).go i H /\ ∃ N : St -> Hp -> Prop, (∀ σ' H', N σ' H' -> ∃ m', m' < m /\ W (i + 1) m' σ' H') /\ ∀ x H', (ItE k K a).yld i H x H' -> g x σ H' fun σ2 H2 => tb { D with nx := N, ct := N, bk := D.nx } σ2 H2) := by
 refine ⟨fun i m σ H => m = xs.length - i /\ i <= xs.length /\ Pv i σ H, ⟨xs.length, by simp, Jw _, h0⟩, ?_⟩;rintro i m σ H ⟨rfl, hi, p⟩;have q := hl i σ H hi p;by_cases hlt : i < xs.length
 ·refine .inr ⟨⟨xs, xs[i], q, by simp [hlt]⟩, Pv (i + 1), fun σ' H' p' => ⟨xs.length - (i + 1), by lia, rfl, hlt, p'⟩, fun x H' y => ?_⟩;obtain ⟨r, y, hn, rfl, hy, rfl⟩ := y;exact hs i y r σ H (hy xs q) p hn
 ·have e : i = xs.length := by lia
  subst e;exact .inl ⟨⟨xs, q, Qx _⟩, hd σ H p⟩
theorem zzy {k1 k2 : Kd} {K : PySem.W.Frag} {a b : Addr} {xs ys : List V} {g : TG} {tb : TS} {D : gP} {σ : St} {H : Hp} (Pv : Nat -> St -> Hp -> Prop) (h0 : Pv 0 σ H) (hl : ∀ i σ H, i <= xs.length -> Pv i σ H -> SqK k1 K H a xs /\ SqK k2 K H b ys) (hle : xs.length <= ys.length)
  (hs : ∀ (i : Nat) x y p σ H, xs[i]? = some x -> ys[i]? = some y -> Pv i σ H -> H p = none -> g (.ref p) σ (upd H p (.tup [x, y])) fun σ2 H2 => tb { D with nx := Pv (i + 1), ct := Pv (i + 1), bk := D.nx } σ2 H2) (hd : ∀ σ H, Pv xs.length σ H -> D.nx σ H) :
  ∃ W : Nat -> Nat -> St -> Hp -> Prop, (∃ m, W 0 m σ H) /\ ∀ i m σ H, W i m σ H ->
   ((ItZ k1 k2 K a b).stop i H /\ D.nx σ H) \/ ((ItZ k1 k2 K a b).go i H /\ ∃ N : St -> Hp -> Prop, (∀ σ' H', N σ' H' -> ∃ m', m' < m /\ W (i + 1) m' σ' H') /\ ∀ x H', (ItZ k1 k2 K a b).yld i H x H' -> g x σ H' fun σ2 H2 => tb { D with nx := N, ct := N, bk := D.nx } σ2 H2) := by
 refine ⟨fun i m σ H => m = xs.length - i /\ i <= xs.length /\ Pv i σ H, ⟨xs.length, by simp, Jw _, h0⟩, ?_⟩;rintro i m σ H ⟨rfl, hi, p⟩;obtain ⟨q1, q2⟩ := hl i σ H hi p;by_cases hlt : i < xs.length
 ·have hlt2 : i < ys.length := by lia
  refine .inr ⟨⟨xs, ys, xs[i], ys[i], q1, q2, by simp [hlt], by simp [hlt2]⟩, Pv (i + 1), fun σ' H' p' => ⟨xs.length - (i + 1), by lia, rfl, hlt, p'⟩, fun x H' y => ?_⟩;obtain ⟨r, x, y, hn, rfl, hx, hy, rfl⟩ := y;exact hs i x y r σ H (hx xs q1) (hy ys q2) p hn
 ·have e : i = xs.length := by lia
  subst e;exact .inl ⟨⟨xs, q1, Qx _⟩, hd σ H p⟩
theorem znw {A : Around} {k : Nat} (hr : Room k A) : A.units + 66 < cLine := by have := hr.un; lia
def zCi (kinds : List (Str × NameKind)) (N : List Str) (scope : Scope) (N' : List Str) (fr : List (Option Nat)) : Bool :=
 (scope.kind == .function) && (scope.names.all fun y => y.2 != .cell) && (scope.names.all fun y => y.2 != .local || scope.names.lookup y.1 == some .local) &&
 (scope.names.all fun y => y.2 != .free || (kinds.lookup y.1 == some .cell || kinds.lookup y.1 == some .free)) && zzw N kinds scope.names N' fr
theorem yH {X : Cx} {scope : Scope} {N' : List Str} {fr : List (Option Nat)} (h : zCi X.env.scope.names X.N scope N' fr = true) : CompOk X scope N' fr := by
 unfold zCi at h;simp only [Qm, Jy] at h;obtain ⟨⟨⟨⟨h1, h2⟩, h3⟩, h4⟩, h5⟩ := h;refine ⟨by simpa using h1, fun y hy => by simpa using h2 y hy, fun y hy e => ?_, fun y hy e => ?_, h5⟩
 ·have := h3 y hy;rw [e] at this
  simpa using this
 ·have := h4 y hy;rw [e] at this
  simpa [Env.kindOf] using this
theorem zaw {σ : St} {H : Hp} {A B : Hp -> Prop} (h : A H) : zFi σ H fun b H3 => if b = true then A H3 else B H3 := by
 show if true = true then A H else B H;exact xK h
section
open PySem.SeqAt
open PySem.AutoSeq1 (wpAny_loadPart')
open PySem.MeetsSeq PySem.MeetsSeq2 PySem.MeetsSeq3
end
section
variable {X : Cx}
def zGx (K : PySem.W.Frag) : R2 := fun x y H Q => ∃ a b ys, x = .ref a /\ y = .ref b /\ SqT K H a [] /\ SqT K H b ys /\ Q (.ref b) H
theorem zop : OpR X (binaryOp .Add) (zGx X.K) := by
 intro pins s σ H x y v u Q I rx ry h;obtain ⟨a, b, ys, rfl, rfl, ha, hb, k⟩ := h;cases (show v = Value.ref a from rx)
 cases (show u = Value.ref b from ry)
 obtain ⟨its, r1, t1, _⟩ := I.tuple ha;obtain ⟨its2, r2, t2, _⟩ := I.tuple hb;rw [Vals.zero r1] at t1;obtain ⟨⟨cls, dd, data, sl⟩, ho, hc, n, hd⟩ := id t1;obtain ⟨⟨cls2, dd2, data2, sl2⟩, ho2, hc2, n2, hd2⟩ := id t2;simp only at hc hd hc2 hd2;subst hc hd hc2 hd2;exact concat_meets ⟨_, ho, rfl⟩ ⟨_, ho2, rfl⟩ noFill_tuple_add seq_tuple_add PySem.F.slot_tuple_add PySem.F.entry_tuple_add (PySem.F.args_tuple_add_2 _ _) (tuple_addW0 a b _ its2.toArray n n2 dd dd2 sl sl2 (by simp)) ⟨ho, ho2, ⟨.ref b, H, I, rfl, k⟩⟩
end
theorem gU {lo : Int} {n : Nat} {g : TG} {tt : TT} {te : TE} {fin : List V -> Hp -> Prop} {σ : St} {H : Hp} (S : St -> Prop) (Pv : Nat -> List V -> Hp -> Prop) (hσ : S σ) (h0 : Pv 0 [] H) (hz : n < sizeLine)
  (hs : ∀ (i : Nat) (ys : List V) (σ : St) (H : Hp) (N : List V -> St -> Hp -> Prop), i < n -> S σ -> Pv i ys H -> (∀ ys' σ' H', S σ' -> Pv (i + 1) ys' H' -> ys'.length <= ys.length + 1 -> N ys' σ' H') ->
   g (.int (lo + i)) σ H fun σ2 H2 => tt σ2 H2 fun b H3 => if b = true then te σ2 H3 fun y H4 => N (ys ++ [y]) σ2 H4 else N ys σ2 H3)
  (hd : ∀ ys H, Pv n ys H -> fin ys H) : ∃ W, zef (Itr lo n) g tt te fin W /\ ∃ m, W 0 m [] σ H := by
 refine ⟨fun i m ys σ H => m = n - i /\ i <= n /\ ys.length <= i /\ S σ /\ Pv i ys H, ?_, n, by simp, Jw _, Qx _, hσ, h0⟩;rintro i m ys σ H ⟨rfl, hi, hy, hS, p⟩;by_cases hlt : i < n
 ·refine .inr ⟨hlt, by omega, fun x H' y => ?_⟩;obtain ⟨e, y⟩ := y;subst e y;exact hs i ys σ _ (fun ys' σ' H'' => ∃ m', m' < n - i /\ m' = n - (i + 1) /\ i + 1 <= n /\ ys'.length <= i + 1 /\ S σ' /\ Pv (i + 1) ys' H'') hlt hS p (fun ys' σ' H'' a b c => ⟨_, by omega, rfl, hlt, by omega, a, b⟩)
 ·have e : i = n := by omega
  subst e;exact .inl ⟨Qx _, by omega, hd ys H p⟩
def zL (c : Nat) : List Nat -> List Nat -> List (List Nat)
 | cur, [] => [cur]
 | cur, x :: xs => if x = c then cur :: zL c [] xs else zL c (cur ++ [x]) xs
def y8 (c : Nat) : Nat -> List Nat -> List Nat
 | _, [] => []
 | k, x :: xs => if x = c then k :: y8 c (k + 1) xs else y8 c (k + 1) xs
theorem zfo (S : Array Nat) (a b : Nat) : (S.extract a b).toList = (S.toList.drop a).take (b - a) := by simp [Array.toList_extract, List.extract]
theorem zek (c : Nat) (S : Array Nat) : ∀ (l pre : List Nat) (a : Nat) (cur : List Nat), S.toList = pre ++ l -> a <= pre.length -> (S.toList.drop a).take (pre.length - a) = cur ->
  ((a :: (y8 c pre.length l).map (· + 1)).zip (y8 c pre.length l ++ [S.size])).map (fun p => (S.extract p.1 p.2).toList) = zL c cur l
 | [], pre, a, cur, hS, ha, hc => by
  have hz : S.size = pre.length := by rw [<- Array.length_toList, hS]; simp
  show [(S.extract a S.size).toList] = [cur];rw [zfo, hz, hc]
 | x :: xs, pre, a, cur, hS, ha, hc => by
  have hS' : S.toList = (pre ++ [x]) ++ xs := by rw [hS]; simp
  have hl : (pre ++ [x]).length = pre.length + 1 := by simp
  by_cases hx : x = c
  ·have e1 : y8 c pre.length (x :: xs) = pre.length :: y8 c (pre.length + 1) xs := by show (if x = c then _ else _) = _; rw [if_pos hx]
   have e2 : zL c cur (x :: xs) = cur :: zL c [] xs := by show (if x = c then _ else _) = _; rw [if_pos hx]
   rw [e1, e2];have ih := zek c S xs (pre ++ [x]) (pre.length + 1) [] hS' (by simp) (by rw [hl]; simp);rw [hl] at ih;show (S.extract a pre.length).toList :: _ = _;rw [zfo, hc];congr 1
  ·have e1 : y8 c pre.length (x :: xs) = y8 c (pre.length + 1) xs := by show (if x = c then _ else _) = _; rw [if_neg hx]
   have e2 : zL c cur (x :: xs) = zL c (cur ++ [x]) xs := by show (if x = c then _ else _) = _; rw [if_neg hx]
   rw [e1, e2];have hc' : (S.toList.drop a).take ((pre ++ [x]).length - a) = cur ++ [x] := by
    rw [hl, show pre.length + 1 - a = (pre.length - a) + 1 by omega, List.take_add_one, hc];congr 1;rw [Wq, show a + (pre.length - a) = pre.length by omega, hS];simp
   have ih := zek c S xs (pre ++ [x]) a (cur ++ [x]) hS' (by omega) hc';rw [hl] at ih;exact ih
theorem jQ {c : Nat} : ∀ {p : List Nat} {cur r : List Nat}, c ∉ p -> zL c cur (p ++ c :: r) = (cur ++ p) :: zL c [] r
 | [], cur, r, _ => by
  show (if c = c then cur :: zL c [] r else _) = _;rw [if_pos rfl, Jp]
 | x :: xs, cur, r, h => by
  have hx : x ≠ c := fun e => h (by rw [e]; exact Qg);show (if x = c then _ else zL c (cur ++ [x]) (xs ++ c :: r)) = _;rw [if_neg hx, jQ fun e => h (Qk _ e)];simp
theorem jP {c : Nat} : ∀ {p : List Nat} {cur : List Nat}, c ∉ p -> zL c cur p = [cur ++ p]
 | [], cur, _ => by show [cur] = _; simp
 | x :: xs, cur, h => by
  have hx : x ≠ c := fun e => h (by rw [e]; exact Qg);show (if x = c then _ else zL c (cur ++ [x]) xs) = _;rw [if_neg hx, jP fun e => h (Qk _ e)];simp
def v3 (c : Nat) : List (List Nat) -> List Nat
 | [] => []
 | [p] => p
 | p :: q :: r => p ++ c :: v3 c (q :: r)
theorem kE {c : Nat} : ∀ {ps : List (List Nat)}, ps ≠ [] -> (∀ p ∈ ps, c ∉ p) -> zL c [] (v3 c ps) = ps
 | [], h, _ => absurd rfl h
 | [p], _, h => by
  show zL c [] p = _;rw [jP (h p Qg)];rfl
 | p :: q :: r, _, h => by
  show zL c [] (p ++ c :: v3 c (q :: r)) = _;rw [jQ (h p Qg), kE (by simp) fun x hx => h x (Qk _ hx)];rfl
theorem zax (x : Str) (c i : Nat) : Builtin.Str.subAt x ⟨#[c]⟩ i = (x.cps.toList[i]? == some c) := by
 unfold Builtin.Str.subAt;show (x.cps.extract i (i + 1) == #[c]) = _;rw [Jd, beq_iff_eq, beq_iff_eq];constructor
 ·intro h;have h2 := congrArg Array.toList h;rw [zfo, show i + 1 - i = 1 by omega] at h2;have h3 : ((x.cps.toList.drop i).take 1)[0]? = some c := by rw [h2]; rfl
  rw [List.getElem?_take_of_lt (by decide), Wq] at h3
  simpa using h3
 ·intro h;apply Array.toList_inj.mp;rw [zfo, show i + 1 - i = 1 by omega];apply List.ext_getElem?;intro j;cases j with
  | zero => rw [List.getElem?_take_of_lt (by decide), Wq]; simpa using h
  | succ j => rw [List.getElem?_take_eq_none (by omega)]; simp
theorem zel (x : Str) (c : Nat) : ∀ (l : List Nat) (k : Nat) (acc : Array Nat) (free : Nat), x.cps.toList.drop k = l -> k + l.length = x.length -> acc.size <= k -> free <= k ->
  (forIn (List.range' k (l.length + 1)) (acc, free) (StrLaws.occBody x ⟨#[c]⟩ x.length (x.length + 1))).run.fst.toList = acc.toList ++ y8 c k l
 | [], k, acc, free, hd, hl, ha, hf => by
  have hk : ¬ (k + (⟨#[c]⟩ : Str).length <= x.length) := by show ¬ (k + 1 <= x.length); simp at hl; omega
  rw [show List.range' k (([] : List Nat).length + 1) = [k] from rfl];rw [Wg];unfold StrLaws.occBody;rw [if_neg (fun h => hk h.1.2)];simp [y8]
 | y :: ys, k, acc, free, hd, hl, ha, hf => by
  have hy : x.cps.toList[k]? = some y := by
   have := congrArg (fun l => l[0]?) hd
   simpa [Wq] using this
  have hd' : x.cps.toList.drop (k + 1) = ys := by
   have := congrArg List.tail hd
   simpa [List.tail_drop] using this
  have hl' : k + 1 + ys.length = x.length := by simp at hl; omega
  rw [show List.range' k ((y :: ys).length + 1) = k :: List.range' (k + 1) (ys.length + 1) from rfl];rw [Wg];have hlen : k + (⟨#[c]⟩ : Str).length <= x.length := by show k + 1 <= x.length; omega
  by_cases e : y = c
  ·have hb : StrLaws.occBody x ⟨#[c]⟩ x.length (x.length + 1) k (acc, free) = pure (ForInStep.yield (acc.push k, k + 1)) := by
    unfold StrLaws.occBody;rw [if_pos ⟨⟨⟨by show acc.size < _; omega, hf⟩, hlen⟩, by rw [zax, hy, e]; simp⟩];rfl
   rw [hb];have ih := zel x c ys (k + 1) (acc.push k) (k + 1) hd' hl' (by simp; omega) (Qx _);have e1 : y8 c k (y :: ys) = k :: y8 c (k + 1) ys := by show (if y = c then _ else _) = _; rw [if_pos e]
   rw [e1];refine Eq.trans ih ?_;simp
  ·have hb : StrLaws.occBody x ⟨#[c]⟩ x.length (x.length + 1) k (acc, free) = pure (ForInStep.yield (acc, free)) := by
    unfold StrLaws.occBody;rw [if_neg (fun h => by have := h.2; rw [zax, hy] at this; simp at this; exact e this)]
   rw [hb];have ih := zel x c ys (k + 1) acc free hd' hl' (by omega) (by omega);have e1 : y8 c k (y :: ys) = y8 c (k + 1) ys := by show (if y = c then _ else _) = _; rw [if_neg e]
   rw [e1];exact ih
theorem zuc (x : Str) (c : Nat) : Builtin.Str.occurrences x ⟨#[c]⟩ 0 x.length (x.length + 1) = y8 c 0 x.cps.toList := by
 rw [StrLaws.occ_eq];have hl : 0 + x.cps.toList.length = x.length := by show 0 + x.cps.toList.length = x.cps.size; simp
 have h := zel x c x.cps.toList 0 #[] 0 (by simp) hl (Qx _) (Qx _);have e : x.cps.toList.length + 1 = x.length + 1 - 0 := by omega
 rw [e] at h
 simpa using h
def mkS (l : List Nat) : Str := ⟨l.toArray⟩
theorem qV (x : Str) : mkS x.cps.toList = x := by cases x; rfl
theorem zme (x : Str) (c : Nat) : Builtin.Str.partsBetween x (y8 c 0 x.cps.toList) 1 = (zL c [] x.cps.toList).map mkS := by
 have h := zek c x.cps x.cps.toList [] 0 [] (by simp) (Qx _) rfl;rw [<- h];unfold Builtin.Str.partsBetween;simp only [Jt];apply List.map_congr_left;rintro ⟨i, j⟩ _;show (⟨x.cps.extract i j⟩ : Str) = mkS (x.cps.extract i j).toList;exact (qV ⟨x.cps.extract i j⟩).symm
theorem zow (x : Str) : 1 <= Builtin.Str.strKind x := by
 unfold Builtin.Str.strKind;split
 ·exact Qx _
 ·split <;> decide
theorem zkr {c : Nat} (h : c < 256) : Builtin.Str.strKind ⟨#[c]⟩ = 1 := by
 unfold Builtin.Str.strKind;rw [if_pos (by simp [h])]
theorem zbj : ∀ (l : List (Str × Tok)), Vals (l.map fun p => V.str p.1) (strValues l)
 | [] => .nil
 | (x, t) :: r => .cons ⟨t, rfl⟩ (zbj r)
section
variable {X : Cx}
def zDi : V -> List V -> Hp -> VK -> Prop := fun x vs H Q => ∃ (z : Str) (c : Nat), x = .str z /\ vs = [.str ⟨#[c]⟩] /\ c < 256 /\ z.length < 1000 /\ ∀ p, H p = none -> Q (.ref p) (upd H p (.lst ((zL c [] z.cps.toList).map fun l => V.str (mkS l))))
theorem qE (c : Nat) : ∀ (l cur : List Nat), (zL c cur l).length <= l.length + 1
 | [], cur => Qx _
 | x :: xs, cur => by
  show (if x = c then cur :: zL c [] xs else zL c (cur ++ [x]) xs).length <= xs.length + 1 + 1;split
  ·simp; exact qE c xs []
  ·exact Qc (qE c xs _) (Nat.le_succ _)
theorem zaq : MtR X "str.split" zDi := by
 intro pins s σ H x xs v us Q I rx r h;obtain ⟨z, c, rfl, rfl, hc, hz, q⟩ := h;obtain ⟨t, rfl⟩ := rx;obtain ⟨u, rfl, ru⟩ := Vals.one r;obtain ⟨t', rfl⟩ := ru;have hzl : z.cps.toList.length = z.length := by show _ = z.cps.size; simp
 have zl : z.length <= sizeLine := Qc (Qu hz) (by decide);have hn : (zL c [] z.cps.toList).length <= sizeLine := Qc (qE c _ _) (by rw [hzl]; exact Qc (show z.length + 1 <= 1000 by omega) (by decide));have fr : H s.heap.objs.size = none := I.hok.fresh (Qx _);have fin : ∀ (l : List (Str × Tok)) (tk : Nat), l.map (·.1) = (zL c [] z.cps.toList).map mkS -> EP X pins σ Q (.ref s.heap.objs.size) { s with heap := s.heap.push { cls := .type "list", data := .seq (strValues l).toArray }, toks := tk } := fun l tk e => by
  have el : (l.map fun p => V.str p.1) = (zL c [] z.cps.toList).map fun l => V.str (mkS l) := by
   have := congrArg (List.map V.str) e
   simpa [Jt, Function.comp_def] using this
  have rv := zbj l;rw [el] at rv;refine ⟨.ref s.heap.objs.size, upd H s.heap.objs.size (.lst ((zL c [] z.cps.toList).map fun l => V.str (mkS l))), I.laid (fun b o e => Qz _ e) (Qx _) ?_, rfl, q _ fr⟩;exact ⟨by rw [Qj]; exact hn, _, 0, rv, Qh _ rfl⟩
 have e0 : Builtin.Str.occurrences z ⟨#[c]⟩ 0 z.length (z.length + 1) = y8 c 0 z.cps.toList := zuc z c;have e1 := zme z c;by_cases h1 : (decide (z.length < (⟨#[c]⟩ : Str).length) || decide (Builtin.Str.strKind z < Builtin.Str.strKind ⟨#[c]⟩)) = true
 ·have zn : z.cps.toList = [] := by
   rw [Bool.or_eq_true, decide_eq_true_eq, decide_eq_true_eq, zkr hc] at h1;rcases h1 with h1 | h1
   ·have : z.length < 1 := h1;exact List.eq_nil_of_length_eq_zero (by omega)
   ·exact absurd (zow z) (by omega)
  refine call_meets F.slot_str_split (typeIs_str _ _ _) F.entry_str_split (F.args_str_split_2 _ _) (meets_str_split_cannot_occur z ⟨#[c]⟩ t t' h1) ?_;refine fin [(z, t)] _ ?_;rw [zn];show [z] = [mkS []];rw [<- qV z, zn]
 ·have h1' := Ww.mpr h1;have hy : ((⟨#[c]⟩ : Str).length == 0) = false := rfl;cases hf : (Builtin.Str.occurrences z ⟨#[c]⟩ 0 z.length (z.length + 1)).isEmpty with
  | true =>
   refine call_meets F.slot_str_split (typeIs_str _ _ _) F.entry_str_split (F.args_str_split_2 _ _) (meets_str_split_not_found z ⟨#[c]⟩ t t' h1' hy hf) ?_;refine fin [(z, t)] _ ?_;rw [e0] at hf;have hcut := List.isEmpty_iff.mp hf;rw [<- e1, hcut];show [z] = [Builtin.Str.strSub z 0 z.length];unfold Builtin.Str.strSub;congr 1;cases z
   simp [Str.length]
  | false =>
   refine call_meets F.slot_str_split (typeIs_str _ _ _) F.entry_str_split (F.args_str_split_2 _ _) (meets_str_split_sep z ⟨#[c]⟩ t t' h1' hy hf zl (by rw [e0]; show (Builtin.Str.partsBetween z _ 1).length <= _; rw [e1, Qj]; exact hn)) ?_;rw [strsFrom_eq];refine fin (numbered s.toks _) _ ?_;rw [numbered_texts, e0];exact e1
theorem zev (hc : X.calm = true) : vK X (.builtin "sum") (fun xs H Q => ∃ (p : Addr) (ns : List Int), xs = [.ref p] /\ SqL X.K H p (ns.map V.int) /\ ∀ n, Q (.int n) H) := by
 intro pins s σ H xs us Q I r h;obtain ⟨p, ns, rfl, hp, q⟩ := h;obtain ⟨u, rfl, ru⟩ := Vals.one r;cases (show u = Value.ref p from ru)
 obtain ⟨its, r1, t1, _⟩ := I.list hp;have hh : X.A.in1.handled = none := I.ok.hd hc;have hlt : p < s.heap.objs.size := by obtain ⟨_, e, _⟩ := t1.isList; exact Qw e
 refine call_sum_walkG (wpAny_pyIter_list t1.isList ⟨_, _, _, _, _, _, fun i => ns.getD i 0, rfl, Walks.list hh _ p (Qd hlt) its.toArray, ⟨⟨_, Qh _ rfl, rfl, rfl⟩, t1.isList.push _⟩, ?_, ?_, ?_⟩)
 ·intro c hc;show c < (s.heap.push _).objs.size;rw [Jg];rcases Qy.mp hc with rfl | hc
  ·exact Nat.lt_succ_self _
  ·rw [Q3.mp hc]; exact Nat.lt_succ_of_lt hlt
 ·intro i v e;have e' : its[i]? = some v := by simpa using e
  have hl : i < its.length := (Qn.mp e').1;have hb : i < ns.length := by have := r1.length; rw [Qj] at this; omega
  obtain ⟨u, e1, t, e2⟩ := r1.get (i := i) (x := V.int ns[i]) (by simp [hb]);rw [e1] at e';cases e'
  exact ⟨t, by rw [e2]; simp [List.getD, hb]⟩
 ·intro h' tk t' hk;exact ⟨.int _, H, I.kept (kY hk), ⟨t', rfl⟩, q _⟩
theorem zgn : vK X (.type "int") (fun xs H Q => ∃ (z : Str) (n : Int), xs = [.str z] /\ PySem.intText? z = some n /\ z.length <= 640 /\ Q (.int n) H) := by
 intro pins s σ H xs us Q I r h;obtain ⟨z, n, rfl, hn, hl, q⟩ := h;obtain ⟨u, rfl, ru⟩ := Vals.one r;obtain ⟨t, rfl⟩ := ru;exact PySem.W.KIN.call_text hn hl ⟨.int n, H, I.tok _, ⟨_, rfl⟩, q⟩
def TJ := St -> Hp -> Str -> (Str -> Hp -> Prop) -> Prop
def PJ (X : Cx) (es : List Expr) (t : TJ) : Prop := ∀ (pins : List (Addr × Obj)) (s : Shared) (σ : St) (H : Hp) (acc : Str) (Q : Str -> Hp -> Prop), Inv X pins σ H s -> t σ H acc Q ->
 Joins (model X.prog X.w) X.A X.xe (evalEach es X.env) acc (fun out s1 => ∃ H', Inv X pins σ H' s1 /\ Q out H') s
def tJ0 : TJ := fun _ H acc Q => Q acc H
def tJ1 (te : TE) (tr : TJ) : TJ := fun σ H acc Q => te σ H fun v H1 => ∃ y, v = .str y /\ (acc ++ y).length <= sizeLine /\ tr σ H1 (acc ++ y) Q
theorem j4 : PJ X [] tJ0 := fun _ _ _ H _ _ I h => ⟨H, I, h⟩
theorem zdw {M : Model} {A : Around} {E : Value -> Shared -> Prop} : ∀ {es : List (Sem Value)} {acc : Str} {Q Q' : Str -> Shared -> Prop} {s : Shared}, (∀ o s, Q o s -> Q' o s) -> Joins M A E es acc Q s -> Joins M A E es acc Q' s
 | [], _, _, _, _, f, h => f _ _ h
 | e :: es, _, _, _, _, f, h => thn h fun v s1 ⟨y, t, e1, e2, e3⟩ => ⟨y, t, e1, e2, zdw f e3⟩
theorem yW {e : Expr} {es : List Expr} {te : TE} {tr : TJ} (he : PE X e te) (hr : PJ X es tr) : PJ X (e :: es) (tJ1 te tr) := by
 intro pins s σ H acc Q I h;show wpAny _ _ (eval e X.env) _ _ s;refine thn (he pins s σ H _ I h) fun v s1 ⟨x, H1, I1, r1, y, e1, hl, q⟩ => ?_;subst e1;obtain ⟨t, rfl⟩ := r1;exact ⟨y, t, rfl, hl, hr pins s1 σ H1 _ Q I1 q⟩
theorem wZ {v1 v2 : Expr} {rest : List Expr} {t : TJ} {pos : Pos} (h : PJ X (v1 :: v2 :: rest) t) : PE X (.JoinedStr (v1 :: v2 :: rest) pos) (fun σ H Q => t σ H Str.empty fun out H' => out.length <= sizeLine /\ Q (.str out) H') := by
 intro pins s σ H Q I hw;refine wpAny_JoinedStr (zdw (fun o s1 ⟨H', I', hl, q⟩ => ⟨hl, ?_⟩) (h pins s σ H _ _ I hw));exact ⟨.str o, H', I'.tok _, ⟨_, rfl⟩, q⟩
theorem vR {value : Expr} {te : TE} {pos : Pos} (h : PE X value te) : PE X (.FormattedValue value (-1) none pos) (fun σ H Q => te σ H fun v H1 => ∃ i, v = .int i /\ i.natAbs.log2 < 1920 /\ Q (.str (toString i)) H1) := by
 intro pins s σ H Q I hw;refine wpAny_FormattedValue_plain (thn (h pins s σ H _ I hw) fun v s1 ⟨x, H1, I1, r1, i, e1, hl, q⟩ => ?_);subst e1;obtain ⟨t, rfl⟩ := r1;exact wpAny_formatField_int hl ⟨.str _, H1, I1.tok _, ⟨_, rfl⟩, q⟩
theorem zlw {ys : List Str} : ∀ {us : List Value}, Vals (ys.map V.str) us -> StrsAre us ys := by
 induction ys with
 | nil => intro us r; rw [Vals.zero r]; exact .nil
 | cons y ys ih =>
  intro us r;cases r with
  | cons h t =>
   obtain ⟨tk, rfl⟩ := h;exact .cons y tk (ih t)
def zGt (K : PySem.W.Frag) : V -> List V -> Hp -> VK -> Prop := fun x vs H Q => ∃ (z : Str) (l : Addr) (ys : List Str), x = .str z /\ vs = [.ref l] /\ SqL K H l (ys.map V.str) /\ (ys.map (·.length)).sum + ys.length * z.length <= 16777216 /\ Q (.str (Txt.join z ys)) H
theorem zou : MtR X "str.join" (zGt X.K) := by
 intro pins s σ H x xs v us Q I rx r h;obtain ⟨z, l, ys, rfl, rfl, hl, hs, q⟩ := h;obtain ⟨t, rfl⟩ := rx;obtain ⟨u, rfl, ru⟩ := Vals.one r;cases (show u = Value.ref l from ru)
 obtain ⟨its, r1, t1, _⟩ := I.list hl;exact join_list t1.isList (by simpa using zlw r1) hs fun t' k => ⟨.str _, H, I.tok _, ⟨_, rfl⟩, q⟩
def Its (z : Str) : It := ⟨fun i _ => i < z.cps.size, fun i H x H' => H' = H /\ ∃ c, z.cps[i]? = some c /\ x = .str ⟨#[c]⟩, fun i _ => z.cps.size <= i⟩
theorem zsx {P : Program} {w : World} {K : PySem.W.Frag} {tg : Expr} (it : Addr) (z : Str) (t : Tok) : znc P w K tg (Its z) [it] it (fun i h => h.IsStrIter it "str_ascii_iterator" z t i /\ i <= z.cps.size) where
 mem := by simp
 obj := fun i h st b hb => by
  rw [Q3.mp hb];obtain ⟨⟨o, ho, hc, hd⟩, _⟩ := st;exact ⟨o, ho, fun v z => by rw [hd] at z; cases z⟩
 keep := fun i h h' st k => let ⟨⟨o, ho, r⟩, l⟩ := st; ⟨⟨o, k it (by simp) o ho, r⟩, l⟩
 item := by
  intro X hP hw hK hc i pins s σ H E I hf st hg;subst hP hw hK;have W := Walks.strAscii (prog := X.prog) (w := X.w) (I.ok.hd hc) it z t;refine W.item i s _ _ hg st.1 fun v h' tk hv st' kk => ?_;obtain ⟨c, u, e, rfl⟩ := hv;have I1 : Inv X pins σ H { s with heap := h', toks := tk } := I.turnM hf kk;obtain ⟨o, ho, hcl, hd⟩ := st';exact ⟨_, rfl, zsf (s := { s with heap := h', toks := tk }) (n := "str_ascii_iterator") ho hcl hd (by decide) ⟨.str ⟨#[c]⟩, H, I1, ⟨u, rfl⟩, ⟨rfl, c, e, rfl⟩, ⟨⟨o, ho, hcl, hd⟩, hg⟩, fun b hb => (hf b hb).1⟩⟩
 done := by
  intro X hP hw hK hc i pins s σ H E I hf st hg;subst hP hw hK;have hi : i = z.cps.size := Nat.le_antisymm st.2 hg;have st1 := st.1;rw [hi] at st1;have W := Walks.strAscii (prog := X.prog) (w := X.w) (I.ok.hd hc) it z t;exact W.done s _ _ st1 fun h' tk kk => ⟨rfl, I.turnM hf kk⟩
 self := fun A i s Q E st h => wpAny_pyIter_striter_ascii st.1 h
def zJc (tl : TE) : TI := fun σ H R => tl σ H fun x H1 => ∃ z, x = .str z /\ z.cps.all (· < 128) = true /\ R (Its z) H1
theorem znj {tg l : Expr} {tl : TE} (hl : PE X l tl) : PI X tg l (zJc tl) := by
 intro pins s σ H R I h;refine thn (hl pins s σ H _ I h) fun v s1 ⟨x, H1, I1, r1, z, e, ha, q⟩ => ?_;subst e;obtain ⟨t, rfl⟩ := r1;refine wpAny_pyIter_ascii ha ?_;refine ⟨s1.heap.objs.size, [s1.heap.objs.size], _, _, H1, rfl, I1.kept (t' := s1.toks) fun b o e => Qz _ e, zsx _ z t, ⟨⟨_, Qh _ rfl, rfl, rfl⟩, Jw _⟩, fun b hb => ?_, q⟩;rw [Q3.mp hb];exact I1.fpOk (Qx _) (I1.hok.fresh (Qx _))
theorem zes {z : Str} {g : TG} {tt : TT} {te : TE} {fin : List V -> Hp -> Prop} {σ : St} {H : Hp} (S : St -> Prop) (Pv : Nat -> List V -> Hp -> Prop) (hσ : S σ) (h0 : Pv 0 [] H) (hz : z.cps.size < sizeLine)
  (hs : ∀ (i : Nat) (c : Nat) (ys : List V) (σ : St) (H : Hp) (N : List V -> St -> Hp -> Prop), z.cps[i]? = some c -> S σ -> Pv i ys H -> (∀ ys' σ' H', S σ' -> Pv (i + 1) ys' H' -> ys'.length <= ys.length + 1 -> N ys' σ' H') ->
   g (.str ⟨#[c]⟩) σ H fun σ2 H2 => tt σ2 H2 fun b H3 => if b = true then te σ2 H3 fun y H4 => N (ys ++ [y]) σ2 H4 else N ys σ2 H3)
  (hd : ∀ ys H, Pv z.cps.size ys H -> fin ys H) : ∃ W, zef (Its z) g tt te fin W /\ ∃ m, W 0 m [] σ H := by
 refine ⟨fun i m ys σ H => m = z.cps.size - i /\ i <= z.cps.size /\ ys.length <= i /\ S σ /\ Pv i ys H, ?_, z.cps.size, by simp, Jw _, Qx _, hσ, h0⟩;rintro i m ys σ H ⟨rfl, hi, hy, hS, p⟩;by_cases hlt : i < z.cps.size
 ·refine .inr ⟨hlt, by omega, fun x H' y => ?_⟩;obtain ⟨e, c, hc, rfl⟩ := y;subst e;exact hs i c ys σ _ (fun ys' σ' H'' => ∃ m', m' < z.cps.size - i /\ m' = z.cps.size - (i + 1) /\ i + 1 <= z.cps.size /\ ys'.length <= i + 1 /\ S σ' /\ Pv (i + 1) ys' H'') hc hS p (fun ys' σ' H'' a b c => ⟨_, by omega, rfl, hlt, by omega, a, b⟩)
 ·have e : i = z.cps.size := by omega
  subst e;exact .inl ⟨Qx _, by omega, hd ys H p⟩
end
theorem ObjOk.there {P : Program} {w : World} {H : Hp} {h : Heap} {a : Addr} {o : HO} (x : ObjOk P w H h a o) : ∃ u, h.get? a = some u := by
 cases o with
 | lst xs => obtain ⟨_, _, _, _, e⟩ := x; exact ⟨_, e⟩
 | tup xs => obtain ⟨_, _, _, _, e, _⟩ := x; exact ⟨_, e⟩
 | dK kvs => obtain ⟨_, _, _, _, o, _, _, e, _⟩ := x; exact ⟨_, e⟩
 | dT kvs => obtain ⟨_, _, _, _, o, _, _, e, _⟩ := x; exact ⟨_, e⟩
 | set S n => obtain ⟨o, _, _, _, e, _⟩ := x; exact ⟨_, e⟩
 | ins C dx fs => obtain ⟨_, _, _, e, _⟩ := x; exact ⟨_, e⟩
 | own y => exact x
 | xd fs => obtain ⟨_, ⟨_, _, _, e, _⟩, _⟩ := x; exact ⟨_, e⟩
 | rng lo hi => obtain ⟨_, _, _, e⟩ := x; exact ⟨_, e⟩
 | frz ob u => exact ⟨_, x.1⟩
 | tbl ps => exact ⟨_, show h.get? a = some { cls := .none, data := .fields ps } from x⟩
 | met f y => exact ⟨_, show h.get? a = some (PySem.W.methodObj (.ref f) (.ref y)) from x⟩
 | ext φ => exact x.2.1
theorem HOk.stays {P : Program} {w : World} {H : Hp} {h h' : Heap} (x : HOk P w H h) (k : ∀ b u v, H b = some v -> h.get? b = some u -> h'.get? b = some u) : HOk P w H h' := fun a o e => by
 refine (x a o e).stay (fun b u hb q => ?_) (fun _ q => q) fun _ _ q => q;rcases hb with rfl | hb
 ·exact k _ u _ e q
 ·exact k b u _ hb q
def CXr (P : Program) (w : World) : CXT := fun outer H s E e s' => ∃ (ea C : Addr) (a0 : Value) (B : Heap) (H' : Hp), e = .ref ea /\ s'.os = s.os /\ AllBare s'.gens /\ Un (frs outer) [] H H' s.heap s'.heap /\ HOk P w H' s'.heap /\
 Heap.FlyingW B outer ea (.ref C) a0 s'.heap /\ (∀ b o, s'.heap.get? b = some o -> ((∃ q, s.heap.get? b = some q) \/ ∃ q, H' b = some q) -> b ∉ frs outer -> B.get? b = some o) /\ E (.ref C) none H'
section
variable {P : Program} {w : World} {K : PySem.W.Frag} {mg : Str -> Option Value} {base : Heap} {N : List Str} {qual : Str} {scope : Scope} {f : Addr} {cd : Value} {A : Around} {outer : List Env} {s0 : Shared} {H0 : Hp} {E : XK}
theorem vY {h : Heap} {B : Heap} {l : List Env} (F : h.FunFrames B l) {b : Addr} {o : Obj} (hb : b ∈ frs l) (e : h.get? b = some o) : ∀ vs, o.data ≠ .fields vs := by
 obtain ⟨_, o', h1, h2⟩ := F.mem hb;rw [e] at h1;cases h1
 exact h2
theorem zjm {pins : List (Addr × Obj)} {σ : St} {H : Hp} {s2 : Shared} {h' : Heap} {e C : Addr} {vs : List Value} {E2 : Value -> Shared -> Prop} (I : Inv (xU (CXr P w) P w K mg base N qual scope f cd A outer s0 H0 E) pins σ H s2)
  (hx : Heap.MadeExcOf s2.heap h' e (.ref C) vs) (q : E (.ref C) none H) :
  wpAny (model P w) (A.deeper (envOfC qual scope s0.heap.objs.size f cd)) (leaving (envOfC qual scope s0.heap.objs.size f cd) (.ref e)) (fun _ s'' => CXr P w outer H0 s0 E (.ref e) s'') E2 { s2 with heap := h' } := by
 have hin : ∀ env ∈ (envOfC qual scope s0.heap.objs.size f cd :: outer), ∀ b, env.frame = some b -> b ∈ frs (envOfC qual scope s0.heap.objs.size f cd :: outer) := fun env he b hb => List.mem_filterMap.mpr ⟨env, he, hb⟩;have St : s2.heap.FunFrames base (envOfC qual scope s0.heap.objs.size f cd :: outer) := I.stack;have hfr : (A.deeper (envOfC qual scope s0.heap.objs.size f cd)).frames = some (envOfC qual scope s0.heap.objs.size f cd :: outer) := I.ok.frames;refine wpAny_leaves_madeW (s := { s2 with heap := h' }) (base := PySem.W.hideAll s2.heap (frs (envOfC qual scope s0.heap.objs.size f cd :: outer))) hfr rfl (fun b o z => PySem.W.of_hideAll _ z) (PySem.W.funFrames_hide St hin) hx fun h'' t x1 _ _ x4 => ?_;have up : s2.heap.UpToSlots h'' := (Heap.UpToSlots.of_keeps hx.keeps).trans x4;have fsub : ∀ b, b ∈ frs (envOfC qual scope s0.heap.objs.size f cd :: outer) -> b = s0.heap.objs.size \/ b ∈ frs outer := fun b hb => by
  have e : frs (envOfC qual scope s0.heap.objs.size f cd :: outer) = s0.heap.objs.size :: frs outer := rfl;rw [e] at hb;exact Qy.mp hb
 have kept : ∀ b o, b ≠ s0.heap.objs.size -> b ∉ frs outer -> s2.heap.get? b = some o -> (PySem.W.hideAll s2.heap (frs (envOfC qual scope s0.heap.objs.size f cd :: outer))).get? b = some o := fun b o n1 n2 z =>
  PySem.W.hideAll_get _ z fun hm => (fsub b hm).elim n1 n2
 have slot : ∀ b o, b ∈ frs outer -> s2.heap.get? b = some o -> ∃ sl, h''.get? b = some { o with slots := sl } := fun b o hb z => up b o z (vY I.funs hb z);have B : Un (frs outer) [] H0 H s0.heap s2.heap := I.base;have ne0 : ∀ b o, s0.heap.get? b = some o -> b ≠ s0.heap.objs.size := fun b o z => Qd (Qw z);have freeL : H s0.heap.objs.size = none := I.free;have trk : ∀ b u v, H b = some v -> s2.heap.get? b = some u -> (PySem.W.hideAll s2.heap (frs (envOfC qual scope s0.heap.objs.size f cd :: outer))).get? b = some u := fun b u v hv z => by
  refine PySem.W.hideAll_get _ z fun hm => ?_;have := I.stkFree b hm;rw [hv] at this;cases this
 refine ⟨e, C, _, _, H, rfl, I.os, I.bare, ⟨fun b o z n hb hx' => ?_, fun b o z n hb hx' => ?_, B.free, fun b o z hx' => ?_, B.tups, B.frzs, B.tbls⟩, ?_, x1, fun b o z hh hb => ?_, q⟩
 ·exact x1.1 b o (kept b o (ne0 b o z) hb (B.keep b o z n hb hx'))
 ·obtain ⟨sl, z2⟩ := B.slot b o z n hb hx';obtain ⟨sl', z3⟩ := slot b _ hb z2;exact ⟨sl', z3⟩
 ·obtain ⟨o', z2⟩ := B.there b o z hx';by_cases hb : b ∈ frs outer
  ·obtain ⟨sl', z3⟩ := slot b _ hb z2;exact ⟨_, z3⟩
  ·exact ⟨_, x1.1 b o' (kept b o' (ne0 b o z) hb z2)⟩
 ·exact I.hok.stays fun b u v hv z => x1.1 b u (trk b u v hv z)
 ·have : ∃ u, (PySem.W.hideAll s2.heap (frs (envOfC qual scope s0.heap.objs.size f cd :: outer))).get? b = some u := by
   rcases hh with ⟨q1, z1⟩ | ⟨q1, z1⟩
   ·obtain ⟨o', z2⟩ := B.there b q1 z1 (by simp);exact ⟨o', kept b o' (ne0 b q1 z1) hb z2⟩
   ·obtain ⟨u, z2⟩ := (I.hok b q1 z1).there;exact ⟨u, trk b u _ z1 z2⟩
  obtain ⟨u, hu⟩ := this;have := x1.1 b u hu;rw [z] at this;cases this
  exact hu
end
abbrev bmVE : List Value := [.type "ValueError", .type "Exception", .type "BaseException", .type "object"]
structure zHr (h : Heap) (C : Addr) (bm : List Value) : Prop where
 ex : ∃ (N : Addr) (nm qn : Str) (bs : List Value) (hd : Bool) (sn : List Str) (sub : List Value) (ab : Bool) (col : Option Bool) (dd : Option Addr) (k0 k1 k2 k3 k5 : Option Value) (mN : Str -> Option Value),
  h.get? C = some (excClassObj nm qn C N bs bm hd sn sub ab col dd k0 k1 k2 k3 k5 "ValueError.__new__") /\ h.Ns N mN /\ mN "__init__" = none /\ OwnTail h bmVE bm
def vH (K : PySem.W.Frag) (C : Addr) (bm : List Value) : Bool := PySem.W.excIn K C bmVE "ValueError.__new__" && (match K.lookup C with | some o => (match o.data with | .cls cd => cd.mro == .ref C :: bm | _ => false) | _ => false)
theorem zla {K : PySem.W.Frag} {h : Heap} {C : Addr} {bm : List Value} (X : K.In h) (z : vH K C bm = true) : zHr h C bm := by
 unfold vH at z;rw [Qm] at z;obtain ⟨z1, z2⟩ := z;unfold PySem.W.excIn at z1;split at z1
 next dd cd sl lk =>
  rw [lk] at z2;split at z1
  next C2 bm2 k0 k1 k2 k3 n k5 hm hs =>
   simp only [Qm, beq_iff_eq, Bool.not_eq_true'] at z1;obtain ⟨⟨⟨⟨⟨y1, y2⟩, y3⟩, y4⟩, y5⟩, y6⟩ := z1;subst y1 y2;have z3 : (cd.mro == .ref C2 :: bm) = true := z2;rw [beq_iff_eq, hm] at z3;cases z3
   cases cd with
   | mk nm bs mro ns qn hd sn sub ab col del =>
    have e1 : mro = .ref C2 :: bm := hm;have e2 : del = false := y3;subst e1 e2;have e3 : sl = #[k0, k1, k2, k3, some (.builtin "ValueError.__new__"), k5] := by
     cases sl with
     | mk l => exact congrArg Array.mk hs
    subst e3;exact ⟨ns, nm, qn, bs, hd, sn, sub, ab, col, dd, k0, k1, k2, k3, k5, _, X _ _ lk, .of_isNs (PySem.W.isNs_of_in X y5), PySem.W.nsMap_none_of_in X y5 y6, PySem.W.tail_of_in X y4⟩
  next => cases z1
 next => cases z1
section
variable {P : Program} {w : World} {K : PySem.W.Frag} {mg : Str -> Option Value} {base : Heap} {N : List Str} {qual : Str} {scope : Scope} {f : Addr} {cd : Value} {A : Around} {outer : List Env} {s0 : Shared} {H0 : Hp} {E : XK}
theorem zby : bmVE.contains (.type "BaseException") = true := by decide +kernel
theorem g0 : bmVE.contains (.type "ValueError") = true := by decide +kernel
def zCv (C : Addr) (E : XK) (ta : TA) : TS := fun _ σ H => ta σ H fun vs H1 => vs.length <= 100 /\ E (.ref C) none H1
end
end L2
namespace L2
open PySem PySem.Spec PyProof.Rows PySem.W
def zsg (K : Frag) (C : Addr) : Bool :=
 findIn K (.ref C) "__getattribute__" == some (some (.builtin "BaseException.__getattribute__")) && findIn K (.ref C) "__getattr__" == some none && findIn K (.ref C) "__class__" == some (some (.builtin "object.__class__"))
  && subIn K (.ref C) (.type "BaseException") == some true && subIn K (.ref C) (.type "object") == some true && (clsIn K C).isSome
structure zne (K : Frag) (C : Addr) : Prop where
 g1 : findIn K (.ref C) "__getattribute__" = some (some (.builtin "BaseException.__getattribute__"))
 g2 : findIn K (.ref C) "__getattr__" = some none
 g3 : findIn K (.ref C) "__class__" = some (some (.builtin "object.__class__"))
 g4 : subIn K (.ref C) (.type "BaseException") = some true
 g5 : subIn K (.ref C) (.type "object") = some true
 g6 : (clsIn K C).isSome = true
theorem excK_of {K : Frag} {C : Addr} (h : zsg K C = true) : zne K C := by
 unfold zsg at h;simp only [Qm, beq_iff_eq] at h;obtain ⟨⟨⟨⟨⟨h1, h2⟩, h3⟩, h4⟩, h5⟩, h6⟩ := h;exact ⟨h1, h2, h3, h4, h5, h6⟩
section
variable {K : Frag} {prog : Program} {w : World} {A : Around} {E : Value -> Shared -> Prop} {h : Heap} {g : Array GenState} {d : Drawn} {t : Nat} {os : OsState} {a C : Addr} {o : Obj}
theorem zCr {R : Result -> Shared -> Prop} (Z : zne K C) (X : K.In h) (hx : h.get? a = some o) (hc : o.cls = .ref C) (hq : R (.ok (.ret (.ref C))) ⟨h, g, d, t, os⟩) :
  codeAny (model prog w) A (.call (.builtin "getset_descriptor.__get__") ⟨[.builtin "object.__class__", .ref a, .ref C], []⟩) R ⟨h, g, d, t, os⟩ := by
 have hT5 : (⟨h, g, d, t, os⟩ : Shared).TypeIs (.builtin "object.__class__") "getset_descriptor" := F.typeOf_object_class;have hs : Looks (model prog w) h (isSubtype (.ref C) (.type (".".intercalate ("object.__class__".cutAt '.').dropLast))) true := by rw [F.owner_object_class]; exact looks_subIn X Z.g5
 refine codeAny_call_builtin F.slot_gs_get.plain F.entry_gs_get (F.slot_gs_get.check _ _ _ _ _ _ _ _ hT5 (F.args_gs_get _ _ _) ?_);repeat (any_goals (first | assumption | (with_reducible refine wpAny_loadPart_at hx ?_; rw [hc]) | with_reducible refine Looks.at hs ?_ | wp_step))
 refine ⟨Code.quiet_builtin _ (by decide +kernel), codeAny_builtin F.entry_object_class ?_⟩;repeat (any_goals (first | assumption | (with_reducible refine wpAny_loadPart_at hx ?_; rw [hc]) | wp_step))
theorem zst {tk : Tok} {Q : Fin -> Shared -> Prop} (Z : zne K C) (X : K.In h) (hx : h.get? a = some o) (hc : o.cls = .ref C) (hq : Q (.done (.ret (.ref C))) ⟨h, g, d, t, os⟩) :
  wpAny (model prog w) A (Builtin.«object.__getattribute__» ⟨[.ref a, .str "__class__" tk], []⟩) Q E ⟨h, g, d, t, os⟩ := by
 have hT5 : (⟨h, g, d, t, os⟩ : Shared).TypeIs (.builtin "object.__class__") "getset_descriptor" := F.typeOf_object_class;have f5 := F.typeOf_object_class;have f6 := F.slot_gs_get.lookup;have f7 := F.slot_gs_set.lookup;have l3 : Looks (model prog w) h (typeLookup (.ref C) "__class__") _ := looks_findIn X Z.g3;repeat (any_goals (first | assumption | (with_reducible refine wpAny_loadPart_at hx ?_; rw [hc]) | with_reducible refine Looks.at l3 ?_ | wp_step))
 refine zCr Z X hx hc ?_;repeat (any_goals (first | assumption | wp_step))
theorem zsu {M : Model} {nameV : Value} {Q : Unit -> Shared -> Prop} (Z : zne K C) (X : K.In h) (hx : h.get? a = some o) (hc : o.cls = .ref C) (hq : Q () ⟨h, g, d, t, os⟩) : wpAny M A (checkBuiltinCall "BaseException.__getattribute__" ⟨[.ref a, nameV], []⟩) Q E ⟨h, g, d, t, os⟩ := by
 have hk : builtinKind "BaseException.__getattribute__" = some .slot := by decide +kernel
 have hsplit : splitId "BaseException.__getattribute__" = some ("BaseException", "__getattribute__") := by decide +kernel
 have ha := F.args_bexc_ga (.ref a) nameV;have hs : Looks M h (isSubtype (.ref C) (.type "BaseException")) true := looks_subIn X Z.g4;simp only [checkBuiltinCall, hk, hsplit];refine Qq ?_;unfold isInstance;repeat (first | (with_reducible refine wpAny_loadPart_at hx ?_; rw [hc]) | with_reducible refine Looks.at hs ?_ | wp_step)
 exact hq
theorem zxp {tk : Tok} {R : Result -> Shared -> Prop} (Z : zne K C) (X : K.In h) (hx : h.get? a = some o) (hc : o.cls = .ref C) (hq : R (.ok (.ret (.ref C))) ⟨h, g, d, t, os⟩) :
  codeAny (model prog w) A (.call (.builtin "BaseException.__getattribute__") ⟨[.ref a, .str "__class__" tk], []⟩) R ⟨h, g, d, t, os⟩ :=
 codeAny_call_builtin F.attrBase_ValueError.ga.plain F.entry_bexc_ga (zsu Z X hx hc (zst Z X hx hc hq))
theorem zFx {tk : Tok} {Q : Value -> Shared -> Prop} (Z : zne K C) (X : K.In h) (hx : h.get? a = some o) (hc : o.cls = .ref C) (hq : Q (.ref C) ⟨h, g, d, t, os⟩) :
  wpAny (model prog w) A (getAttrBy (.ref a) (.str "__class__" tk) false) Q E ⟨h, g, d, t, os⟩ := by
 have f3 := F.attrBase_ValueError.ga.bind (.ref a);have y0 : (false && onTheHeap (Value.builtin "BaseException.__getattribute__")) = false := rfl;have y2 : (Value.builtin "BaseException.__getattribute__" == Value.builtin "object.__getattribute__") = false := by decide +kernel
 have y1 : (onTheHeap (Value.ref C) && Value.builtin "BaseException.__getattribute__" == Value.builtin "object.__getattribute__") = false := by rw [y2]; rfl
 have l1 : Looks (model prog w) h (typeLookup (.ref C) "__getattribute__") _ := looks_findIn X Z.g1;have l2 : Looks (model prog w) h (typeLookup (.ref C) "__getattr__") _ := looks_findIn X Z.g2;repeat (any_goals (first | assumption | (with_reducible refine wpAny_loadPart_at hx ?_; rw [hc]) | with_reducible refine Looks.at l1 ?_ | with_reducible refine Looks.at l2 ?_ | wp_step))
 refine zxp Z X hx hc ?_;repeat (any_goals (first | assumption | wp_step))
theorem zxq {Q : Option Value -> Shared -> Prop} (Z : zne K C) (X : K.In h) (hx : h.get? a = some o) (hc : o.cls = .ref C) (hq : Q (some (.ref C)) ⟨h, g, d, t + 1, os⟩) :
  wpAny (model prog w) A (getAttr? (.ref a) "__class__") Q E ⟨h, g, d, t, os⟩ := by
 unfold getAttr? getAttrBy?;repeat (any_goals (first | assumption | with_reducible apply zFx Z X hx hc | wp_step))
end
def zFh (a C : Addr) (h : Heap) : Prop := ∃ o, h.get? a = some o /\ o.cls = .ref C
theorem zuj {K : Frag} {a C : Addr} (Z : zne K C) : KitX K (.ref a) (.ref C) (zFh a C) where
 ty := fun M h _ p => by
  obtain ⟨o, h1, h2⟩ := p;exact h2 ▸ (Looks.ld h1).andThen .now
 it := fun M h X _ => by
  have z0 := Z.g6;unfold clsIn at z0;split at z0
  ·rename_i ho
   intro A' Q' E' s' k q;unfold isType loadHead;exact Qq (wpAny_loadPart (k _ _ (X _ _ ho)) (Qr q))
  ·cases z0
 ne := fun h tp dd its n sl X htp => by
  refine Ww.mpr fun q => ?_;have e : Value.ref C = .ref tp := beq_iff_eq.mp q;cases e
  have z0 := Z.g6;unfold clsIn at z0;split at z0
  ·rename_i ho
   rw [X _ _ ho] at htp;cases htp
  ·cases z0
 ca := fun {prog w A E Q s} X p k => by
  obtain ⟨h, g, d, t, os⟩ := s;obtain ⟨o, h1, h2⟩ := p;exact zxq Z X h1 h2 k
section
variable {X : Cx}
end
end L2
namespace L2
open PySem PySem.Spec PyProof.Rows PySem.W
section
variable {X : Cx} {pins : List (Addr × Obj)} {σ : St} {H H' : Hp} {s s' : Shared}
theorem Inv.track {a : Addr} {o : HO} (I : Inv X pins σ H s) (hn : H a = none) (new : ObjOk X.prog X.w (upd H a o) s.heap a o) (hL : a ≠ X.env.locals) (hC : ∀ x c, X.env.cells.lookup x = some c -> c ≠ a) (hp : ∀ p ∈ X.pn ++ pins, p.1 ≠ a)
  (h0 : ∀ b u, X.s₀.heap.get? b = some u -> b ∉ X.ex -> b ≠ a) : Inv X pins σ (upd H a o) s := by
 have up : ∀ b v, H b = some v -> upd H a o b = some v := fun b v e => by rw [zS (yD e hn)]; exact e
 refine ⟨I.ok, I.os, I.bare, ⟨I.base.keep, I.base.slot, fun b u e n hx => ?_, I.base.there, fun b xs e => up _ _ (I.base.tups b xs e), fun b u xs e => up _ _ (I.base.frzs b u xs e), fun b ps e => ?_⟩, I.loc, I.cell, ?_, fun x c e => ?_, fun p q => ?_, HOk.track I.hok hn new, I.len⟩
 ·rw [zS (h0 b u e hx)];exact I.base.free b u e n hx
 ·obtain ⟨m, e'⟩ := I.base.tbls b ps e;exact ⟨m, up _ _ e'⟩
 ·rw [zS (Ne.symm hL)];exact I.free
 ·rw [zS (hC x c e)];exact I.freeC x c e
 ·obtain ⟨e, n, r⟩ := I.pin p q;exact ⟨e, by rw [zS (hp p q)]; exact n, r⟩
theorem zfv {M : Model} {A : Around} {E : Value -> Shared -> Prop} {i : Nat} {x : Str} {pos : Pos} {Q : Unit -> Shared -> Prop} (I : Inv X pins σ H s) (hN : X.N.Nodup) (hi : X.N[i]? = some x) (hx : X.env.scope.names.lookup x = some .local)
  (h : ∀ s', Inv X pins (σ.set i none) H s' -> Q () s') : wpAny M A (do bindName X.env x .none; unbindBehindTheSuite X.env x pos) Q E s := by
 obtain ⟨m, hn, hl⟩ := id I.loc;have kd : (X.env.scope.kind == .class || (X.env.scope.kind == .module && X.env.locals != X.env.globals)) = false := by rw [I.ok.kind]; rfl
 have hiσ : i < σ.length := by rw [I.len]; exact (Qn.mp hi).1
 refine wpAny_nameGoes_keeps (env := X.env) hx hn kd fun h' v hn' hs => ?_;obtain ⟨oL, _, _, hoL, _⟩ := id hn;have away : ∀ b o, X.s₀.heap.get? b = some o -> b ≠ X.env.locals := fun b o e => Qd (Q2 (Qw e) I.ok.above);refine h _ ⟨I.ok, I.os, I.bare, ⟨fun b o e n hb hx => (hs.2 b (away b o e)).trans (I.base.keep b o e n hb hx), fun b o e n hb hx => ?_, I.base.free, fun b o e hx => ?_, I.base.tups, I.base.frzs, I.base.tbls⟩, ⟨_, hn', fun j y v' e1 e2 e3 => ?_⟩, fun y c e => ?_, I.free, I.freeC, fun p hp => ?_, I.hok.stays fun b u v hv z => (hs.2 b fun q => ?_).trans z, by simpa using I.len⟩
 ·obtain ⟨sl, e1⟩ := I.base.slot b o e n hb hx;exact ⟨sl, (hs.2 b (away b o e)).trans e1⟩
 ·obtain ⟨o', e1⟩ := I.base.there b o e hx;exact ⟨o', (hs.2 b (away b o e)).trans e1⟩
 ·by_cases hj : j = i
  ·subst hj;rw [List.getElem?_set_self hiσ] at e2;cases e2
  ·rw [List.getElem?_set_ne (Ne.symm hj)] at e2;obtain ⟨u', r', q⟩ := hl j y v' e1 e2 e3;refine ⟨u', r', ?_⟩;rcases q with ⟨k, e⟩ | ⟨k, c, e, z⟩
   ·refine .inl ⟨k, ?_⟩;have : y ≠ x := fun e => hj (zem hN e1 (e ▸ hi));simp [this, e]
   ·exact .inr ⟨k, c, e, z.sameBut hs (I.cne y c e)⟩
 ·obtain ⟨w', z⟩ := I.cell y c e;exact ⟨w', z.sameBut hs (I.cne y c e)⟩
 ·obtain ⟨e, n, ne, nf, d⟩ := I.pin p hp;exact ⟨(hs.2 p.1 ne).trans e, n, ne, nf, d⟩
 ·rw [q, I.free] at hv;cases hv
theorem zmw {B h' : Heap} (I : Inv X pins σ H s) (os : s'.os = s.os) (bare : AllBare s'.gens) (un : Un (frs X.stack) [] H H' s.heap s'.heap) (hok : HOk X.prog X.w H' s'.heap) (fr : s'.heap.FunFrames B X.stack)
  (kB : ∀ b o, s'.heap.get? b = some o -> ((∃ q, s.heap.get? b = some q) \/ ∃ q, H' b = some q) -> b ∉ frs X.stack -> B.get? b = some o) (st : B.StaysIn h') (up : s'.heap.UpToSlots h') : Inv X pins σ H' { s' with heap := h' } := by
 have sl : ∀ b o, b ∈ frs X.stack -> s'.heap.get? b = some o -> ∃ sl, h'.get? b = some { o with slots := sl } := fun b o hb z => up b o z (vY fr hb z);refine I.call' (ch := []) (s' := { s' with heap := h' }) os ⟨fun b o z n hb hx => ?_, fun b o z n hb hx => ?_, un.free, fun b o z hx => ?_, un.tups, un.frzs, un.tbls⟩ (hok.stays fun b u v hv z => ?_) bare (fun b z => absurd z (by simp))
 ·exact st b o (kB b o (un.keep b o z n hb hx) (.inl ⟨o, z⟩) hb)
 ·obtain ⟨s1, z2⟩ := un.slot b o z n hb hx;obtain ⟨s2, z3⟩ := sl b _ hb z2;exact ⟨s2, z3⟩
 ·obtain ⟨o', z2⟩ := un.there b o z hx;by_cases hb : b ∈ frs X.stack
  ·obtain ⟨s2, z3⟩ := sl b _ hb z2;exact ⟨_, z3⟩
  ·exact ⟨_, st b o' (kB b o' z2 (.inl ⟨o, z⟩) hb)⟩
 ·refine st b u (kB b u z (.inr ⟨v, hv⟩) fun hb => ?_);obtain ⟨_, o, z1, _⟩ := I.stack.mem hb;have := un.free b o z1 (I.stkFree b hb) (by simp);rw [hv] at this;cases this
end
def Cx.marked (X : Cx) (v : Value) : Cx := { X with A := X.A.mark (some v), calm := false, xe := fun _ _ => False }
section
variable {X : Cx} {pins : List (Addr × Obj)} {σ : St} {H H' : Hp} {s s' : Shared} {v : Value}
theorem Inv.mark (I : Inv X pins σ H s) : Inv (X.marked v) pins σ H s :=
 ⟨⟨I.ok.mod, I.ok.kind, I.ok.glob, I.ok.blt, I.ok.above, I.ok.inj, I.ok.has, I.ok.cab, fun z => (by cases z), I.ok.frames, I.ok.stk, I.ok.exf, I.ok.bs, I.ok.bsz, I.ok.noex, I.ok.exfs, I.ok.funs, I.ok.frf⟩, I.os, I.bare, I.base, I.loc, I.cell, I.free, I.freeC, I.pin, I.hok, I.len⟩
theorem Inv.unmark (I : Inv (X.marked v) pins σ H s) (hd : X.calm = true -> X.A.handled = none) : Inv X pins σ H s :=
 ⟨⟨I.ok.mod, I.ok.kind, I.ok.glob, I.ok.blt, I.ok.above, I.ok.inj, I.ok.has, I.ok.cab, hd, I.ok.frames, I.ok.stk, I.ok.exf, I.ok.bs, I.ok.bsz, I.ok.noex, I.ok.exfs, I.ok.funs, I.ok.frf⟩, I.os, I.bare, I.base, I.loc, I.cell, I.free, I.freeC, I.pin, I.hok, I.len⟩
end
theorem zlo {K : Frag} {M : Model} {A : Around} {E : Value -> Shared -> Prop} {h : Heap} {g : Array GenState} {d : Drawn} {t : Nat} {os : OsState} {e C W : Addr} {oe : Obj} {bmW : List Value} {Q : Bool -> Shared -> Prop} (X : K.In h) (hW : vH K W bmW = true) (sb : subIn K (.ref C) (.ref W) = some true)
  (he : h.get? e = some oe) (hcls : oe.cls = .ref C) (hq : Q true ⟨h, g, d, t, os⟩) : wpAny M A (excMatches (.ref e) (.ref W)) Q E ⟨h, g, d, t, os⟩ := by
 obtain ⟨N, nm, qn, bs, hd, sn, sub, ab, col, dd, k0, k1, k2, k3, k5, mN, hC, e2, e3, e4⟩ := (zla X hW).ex;have c1 : (Value.ref W :: bmW).contains (.type "BaseException") = true := by rw [List.contains_cons, e4.hasType zby, Bool.or_true]
 have l1 : Looks M h (isSubtype (.ref C) (.ref W)) true := looks_subIn X sb;have f := tc_notTuple;unfold excMatches;repeat (first | (with_reducible refine wpAny_loadPart_at he ?_; rw [hcls]) | with_reducible refine wpAny_loadPart_at hC ?_ | with_reducible refine Looks.at l1 ?_ | (with_reducible refine wpAny_isSubtype_exc hC ?_; rw [c1]) | wp_step)
 exact hq
end L2
namespace L2
open PySem PySem.Spec PyProof.Rows
open PySem.AutoSeq1 (wpAny_loadPart')
section
variable {prog : Program} {w : World} {A : Around} {E : Value -> Shared -> Prop} {s : Shared}
theorem gQ {R : Result -> Shared -> Prop} {r : Addr} {a b c : Int} {t u v : Tok} {n : Nat} (hh : A.handled = none) (hr : IsRange s.heap r a b c t u v) (hsm : Builtin.Range.small a b c = true) (hn : Builtin.Range.rangeSize a b c = n) (hl : n <= 2 ^ 24)
  (hR : ∀ h' tk acc c', (∀ b o, s.heap.get? b = some o -> h'.get? b = some o) -> h'.get? s.heap.objs.size = some { cls := .type "list", dict := none, data := .seq acc c', slots := #[] } -> ItemsOf (fun i v => ∃ t, v = .int (a + i * c) t) acc n ->
   R (.ok (.ret (.ref s.heap.objs.size))) { s with heap := h', toks := tk }) : codeAny (model prog w) A (.builtin "proto.collect" ⟨[.ref r], []⟩) R s := by
 refine codeAny_builtin PySem.F.entry_proto_collect ?_;rw [Around.under_plainId PySem.F.plain_proto_collect _];show wpAny _ A.in1 (newList [] >>= fun l => again (.builtin "list.__iadd__" ⟨[l, .ref r], []⟩)) _ _ s;refine Qq (Wb ?_);refine Qr ⟨plainId_quiet PySem.F.plain_list_iadd _, codeAny_builtin PySem.F.entry_list_iadd ?_⟩;rw [Around.under_plainId PySem.F.plain_list_iadd _];show wpAny _ A.in1 (Builtin.List.listExtendWith (.ref s.heap.objs.size) (.ref r) (.ref s.heap.objs.size)) _ _ _;exact wpAny_extend_range (R := R) (s := { s with heap := s.heap.push { cls := .type "list", data := .seq ([] : List Value).toArray } }) hh (Qz _ hr) hsm hn hl s.heap.objs.size (.ref s.heap.objs.size) 0 (Qh _ rfl) fun h' tk acc c' hk hS hacc =>
  hR h' tk acc c' (fun b o e => hk b o (Qd (Qw e)) (Qz _ e)) hS hacc
theorem zfj {Q : List Value -> Shared -> Prop} {r : Addr} {a b c : Int} {t u v : Tok} {n : Nat} (hh : A.handled = none) (hr : IsRange s.heap r a b c t u v) (hsm : Builtin.Range.small a b c = true) (hn : Builtin.Range.rangeSize a b c = n) (hl : n <= 2 ^ 24)
  (hQ : ∀ h' tk acc, (∀ b o, s.heap.get? b = some o -> h'.get? b = some o) -> s.heap.objs.size < h'.objs.size -> ItemsOf (fun i v => ∃ t, v = .int (a + i * c) t) acc n -> Q acc.toList { s with heap := h', toks := tk }) : wpAny (model prog w) A (collect (.ref r)) Q E s := by
 unfold collect;refine Qq (wpAny_runValue (gQ hh hr hsm hn hl fun h' tk acc c' hk hS hacc => ?_));show wpAny _ A (load s.heap.objs.size >>= _) _ _ _;refine Qq (wpAny_load hS ?_);exact Qr (hQ h' tk acc hk (Qw hS) hacc)
end
theorem zcj (r : Addr) (a b c : Int) (t u v : Tok) (n : Nat) (hsm : Builtin.Range.small a b c = true) (hn : Builtin.Range.rangeSize a b c = n) (hl : n <= 2 ^ 24) :
  Meets (Builtin.«tuple.__new__» ⟨[.type "tuple", .ref r], []⟩)
   (fun A R s => (A.handled = none /\ IsRange s.heap r a b c t u v) /\ ∀ (h' : Heap) (tk : Nat) (acc : Array Value), (∀ b o, s.heap.get? b = some o -> h'.get? b = some o) -> s.heap.objs.size < h'.objs.size -> ItemsOf (fun i v => ∃ t, v = .int (a + i * c) t) acc n ->
    R (.ok (.ret (.ref h'.objs.size))) { s with heap := h'.push { cls := .type "tuple", data := .seq acc }, toks := tk }) :=
 .of_wp fun prog w A R s h => by
  obtain ⟨⟨hh, hr⟩, h⟩ := h;have hsub := sub_tuple_self;have hinit := init_tuple_lookup;have hmh := madeHere_tuple;have hT : s.TypeIs (.ref r) "range" := ⟨_, hr, rfl⟩;have hh1 : A.in1.handled = none := hh
  wp_walk using wpAny_typeOf hT, zfj hh1 hr hsm hn hl
  intro h' tk acc hk hz hacc;show wpAny _ _ (Builtin.Tuple.tupleExact acc.toList.toArray >>= fun v => ret v) _ _ _;unfold Builtin.Tuple.tupleExact;refine Qq (Wb ?_ (show acc.toList.toArray.size <= sizeLine by simp only [Array.toArray_toList]; rw [hacc.1, sizeLine_eq]; omega));refine Qr ⟨_, rfl, ?_⟩;have e : acc.toList.toArray = acc := by simp
  rw [e];exact h h' tk acc hk hz hacc
def upN (n : Nat) : List V := (List.range n).map fun (i : Nat) => V.int i
theorem zku {acc : Array Value} {n : Nat} (h : ItemsOf (fun i v => ∃ t, v = .int (0 + (i : Int) * 1) t) acc n) : Vals (upN n) acc.toList := by
 obtain ⟨hz, hi⟩ := h;have key : ∀ (l : List Value) (k : Nat), (∀ (j : Nat) (v : Value), l[j]? = some v -> ∃ t, v = Value.int ((k + j : Nat) : Int) t) -> Vals ((List.range' k l.length).map fun (i : Nat) => V.int i) l := by
  intro l
  induction l with
  | nil => intro k _; exact .nil
  | cons a r ih =>
   intro k hk;obtain ⟨t, e⟩ := hk 0 a rfl;refine .cons ⟨t, by simpa using e⟩ (ih (k + 1) fun j v e => ?_);obtain ⟨t', e'⟩ := hk (j + 1) v (by simpa using e);exact ⟨t', by rw [e']; congr 2; omega⟩
 have := key acc.toList 0 fun j v e => by
  obtain ⟨t, e'⟩ := hi j v (by simpa using e);exact ⟨t, by rw [e']; congr 1; simp⟩
 have el : acc.toList.length = n := by simpa using hz
 rw [el] at this;unfold upN;rw [List.range_eq_range'];exact this
section
variable {X : Cx}
theorem qQ : vK X (.type "range") (fun xs H Q => ∃ j : Int, xs = [.int j] /\ ∀ p, H p = none -> Q (.ref p) (upd H p (.rng 0 j))) := by
 intro pins s σ H xs us Q I r h;obtain ⟨j, rfl, q⟩ := h;obtain ⟨u, rfl, ru⟩ := Vals.one r;obtain ⟨t, rfl⟩ := ru;refine call_range_1 ⟨.ref s.heap.objs.size, upd H s.heap.objs.size (.rng 0 j), I.laid (fun b o e => Qz _ e) (Qx _) ?_, rfl, q _ (I.hok.fresh (Qx _))⟩;exact ⟨_, _, _, Qh _ rfl⟩
theorem zBn (n : Nat) : Builtin.Range.rangeSize 0 (n : Int) 1 = (n : Int) := by rw [rangeSize_one]; split <;> omega
theorem qT (hc : X.calm = true) : vK X (.type "list") (fun xs H Q => ∃ (p : Addr) (n : Nat), xs = [.ref p] /\ H p = some (.rng 0 n) /\ n <= 1000 /\ ∀ l, H l = none -> Q (.ref l) (upd H l (.lst (upN n)))) := by
 intro pins s σ H xs us Q I r h;obtain ⟨p, n, rfl, hp, hn, q⟩ := h;obtain ⟨u, rfl, ru⟩ := Vals.one r;cases (show u = Value.ref p from ru)
 obtain ⟨t1, t2, t3, e⟩ := I.hok p _ hp;refine call_list_range (t := t1) (u := t2) (v := t3) (I.ok.hd hc) e (small_one (by decide) (by decide) (by omega) (by omega)) (zBn n) (by omega) fun h' tk acc c' hk hS hacc => ?_;refine ⟨.ref s.heap.objs.size, upd H s.heap.objs.size (.lst (upN n)), I.laid hk (Qx _) ?_, rfl, q _ (I.hok.fresh (Qx _))⟩;exact ⟨by unfold upN; rw [Qj, List.length_range]; exact Qc hn (by decide), acc.toList, c', zku hacc, by rw [hS]⟩
theorem zde (hc : X.calm = true) : vK X (.type "tuple") (fun xs H Q => ∃ (p : Addr) (n : Nat), xs = [.ref p] /\ H p = some (.rng 0 n) /\ n <= 1000 /\ ∀ l, H l = none -> Q (.ref l) (upd H l (.tup (upN n)))) := by
 intro pins s σ H xs us Q I r h;obtain ⟨p, n, rfl, hp, hn, q⟩ := h;obtain ⟨u, rfl, ru⟩ := Vals.one r;cases (show u = Value.ref p from ru)
 obtain ⟨t1, t2, t3, e⟩ := I.hok p _ hp;refine callType_new F.called_tuple (by decide) (F.typeCall_tuple_1 _) (F.newCall_tuple_1 _) (fun obj => F.args_object_init_2 obj _) F.entry_tuple_new
  (zcj p 0 n 1 t1 t2 t3 n (small_one (by decide) (by decide) (by omega) (by omega)) (zBn n) (by omega)) ⟨⟨I.ok.hd hc, e⟩, fun h' tk acc hk hz hacc => ⟨⟨_, Qh _ rfl, rfl⟩, ?_⟩⟩
 have ge : s.heap.objs.size <= h'.objs.size := Qu hz;refine ⟨.ref h'.objs.size, upd H h'.objs.size (.tup (upN n)), I.laid (fun b o e => Qz _ (hk b o e)) ge ?_, rfl, q _ (I.hok.fresh ge)⟩;refine ⟨by unfold upN; rw [Qj, List.length_range]; exact Qc hn (by decide), acc.toList, zku hacc, _, Qh _ rfl, rfl, 0, by simp⟩
end
theorem zza {P : Program} {w : World} {K : PySem.W.Frag} {mg : Str -> Option Value} {base : Heap} {N : List Str} {qual : Str} {scope : Scope} {f : Addr} {cd : Value} {A : Around} {outer : List Env} {s0 : Shared} {H0 : Hp} {E : XK} :
  jK (CXr P w) (xU (CXr P w) P w K mg base N qual scope f cd A outer s0 H0 E) E := by
 intro pins σ H s e s' I hx;obtain ⟨ea, C, a0, B, H', rfl, os, bare, un, hok, fly, kB, q⟩ := hx;have hfr : (A.deeper (envOfC qual scope s0.heap.objs.size f cd)).frames = some (envOfC qual scope s0.heap.objs.size f cd :: outer) := I.ok.frames;show wpAny (model P w) (A.deeper (envOfC qual scope s0.heap.objs.size f cd)) (leaving (envOfC qual scope s0.heap.objs.size f cd) (.ref ea)) (fun _ s'' => CXr P w outer H0 s0 E (.ref ea) s'') _ s';have fly0 : Heap.FlyingW B (envOfC qual scope s0.heap.objs.size f cd :: outer) ea (.ref C) a0 s'.heap := fly;refine wpAny_leaves_onW hfr rfl fly0 fun h' fly' up => ?_;have eS : frs (envOfC qual scope s0.heap.objs.size f cd :: outer) = s0.heap.objs.size :: frs outer := rfl;have fsub : ∀ b, b ∉ frs outer -> b ≠ s0.heap.objs.size -> b ∉ frs (envOfC qual scope s0.heap.objs.size f cd :: outer) := fun b h1 h2 hb => by
  rw [eS] at hb;exact (Qy.mp hb).elim h2 h1
 have fin : ∀ b, b ∈ frs outer -> b ∈ frs (envOfC qual scope s0.heap.objs.size f cd :: outer) := fun b hb => by rw [eS]; exact Qk _ hb
 have ne0 : ∀ b o, s0.heap.get? b = some o -> b ≠ s0.heap.objs.size := fun b o z => Qd (Qw z);have BS : Un (frs outer) [] H0 H s0.heap s.heap := I.base;have un' : Un (frs (envOfC qual scope s0.heap.objs.size f cd :: outer)) [] H H' s.heap s'.heap := un;have sl : ∀ b o, b ∈ frs outer -> s'.heap.get? b = some o -> ∃ sl, h'.get? b = some { o with slots := sl } := fun b o hb z => up b o z (vY fly0.2.2.1 (fin b hb) z);have kB' : ∀ b o, s'.heap.get? b = some o -> ((∃ q, s.heap.get? b = some q) \/ ∃ q, H' b = some q) -> b ∉ frs (envOfC qual scope s0.heap.objs.size f cd :: outer) -> B.get? b = some o := kB;have trf : ∀ b, b ∈ frs (envOfC qual scope s0.heap.objs.size f cd :: outer) -> H' b = none := fun b hb => by
  obtain ⟨_, o, z1, _⟩ := (show s.heap.FunFrames base (envOfC qual scope s0.heap.objs.size f cd :: outer) from I.stack).mem hb;exact un'.free b o z1 (I.stkFree b hb) (by simp)
 refine ⟨ea, C, a0, B, H', rfl, os.trans I.os, bare, ⟨fun b o z n hb hx => ?_, fun b o z n hb hx => ?_, fun b o z n hx => ?_, fun b o z hx => ?_, fun b xs z => un'.tups b xs (BS.tups b xs z), fun b o u z => un'.frzs b o u (BS.frzs b o u z), fun b ps z => ?_⟩, ?_, fly', fun b o z hh hb => ?_, q⟩
 ·have z1 := BS.keep b o z n hb hx;have z2 := un'.keep b o z1 (BS.free b o z n hx) (fsub b hb (ne0 b o z)) (by simp);exact fly'.1 b o (kB' b o z2 (.inl ⟨o, z1⟩) (fsub b hb (ne0 b o z)))
 ·obtain ⟨s1, z1⟩ := BS.slot b o z n hb hx;obtain ⟨s2, z2⟩ := un'.slot b _ z1 (BS.free b o z n hx) (fin b hb) (by simp);obtain ⟨s3, z3⟩ := sl b _ hb z2;exact ⟨s3, z3⟩
 ·obtain ⟨o', z1⟩ := BS.there b o z hx;exact un'.free b o' z1 (BS.free b o z n hx) (by simp)
 ·obtain ⟨o1, z1⟩ := BS.there b o z hx;obtain ⟨o2, z2⟩ := un'.there b o1 z1 (by simp);by_cases hb : b ∈ frs outer
  ·obtain ⟨s3, z3⟩ := sl b _ hb z2;exact ⟨_, z3⟩
  ·exact ⟨_, fly'.1 b o2 (kB' b o2 z2 (.inl ⟨o1, z1⟩) (fsub b hb (ne0 b o z)))⟩
 ·obtain ⟨m1, z1⟩ := BS.tbls b ps z;obtain ⟨m2, z2⟩ := un'.tbls b _ z1;exact ⟨m1 ++ m2, by rw [z2, Array.append_assoc]⟩
 ·refine hok.stays fun b u v hv z => fly'.1 b u (kB' b u z (.inr ⟨v, hv⟩) fun hb => ?_);have := trf b hb;rw [hv] at this;cases this
 ·have ex : ∃ u, s'.heap.get? b = some u /\ B.get? b = some u := by
   rcases hh with ⟨q1, z1⟩ | ⟨q1, z1⟩
   ·obtain ⟨o1, z2⟩ := BS.there b q1 z1 (by simp);obtain ⟨o2, z3⟩ := un'.there b o1 z2 (by simp);exact ⟨o2, z3, kB' b o2 z3 (.inl ⟨o1, z2⟩) (fsub b hb (ne0 b q1 z1))⟩
   ·obtain ⟨u, z2⟩ := (hok b q1 z1).there;refine ⟨u, z2, kB' b u z2 (.inr ⟨q1, z1⟩) fun hm => ?_⟩;have := trf b hm;rw [z1] at this;cases this
  obtain ⟨u, _, hu⟩ := ex;have := fly'.1 b u hu;rw [z] at this;cases this
  exact hu
section
variable {X : Cx}
end
structure RoomH (k : Nat) (A : Around) : Prop where
 dp : A.depth + 3 * k + 5 < recursionLimit
 un : A.units + 16 * k + 200 < cLine
theorem Room.marked {k : Nat} {A : Around} {v : Value} (r : Room k A) : RoomH k (A.mark (some v)) := ⟨r.dp, r.un⟩
theorem RoomH.deeper {k : Nat} {A : Around} (r : RoomH (k + 1) A) (env : Env) : RoomH k (A.deeper env) :=
 ⟨by have := r.dp; show A.depth + 1 + 3 * k + 5 < _; omega, by have := r.un; show A.units + 3 + 16 * k + 200 < _; omega⟩
def cxH (P : Program) (w : World) (K : PySem.W.Frag) (mg : Str -> Option Value) (base : Heap) (N : List Str) (qual : Str) (scope : Scope) (f : Addr) (cd : Value) (A : Around) (outer : List Env) (s : Shared) (H : Hp) (E : XK) : Cx :=
 { (xU CX0 P w K mg base N qual scope f cd A outer s H E).nox with calm := false }
structure zCn (P : Program) (w : World) (K : PySem.W.Frag) (mg : Str -> Option Value) (base : Heap) (k : Nat) (f : Addr) (fd : FuncData) (ps : List Str) (sp : Sp) : Prop where
 len : ∀ vs H Q E, sp vs H Q E -> vs.length = ps.length
 run : ∀ (A : Around) (outer : List Env) (s : Shared) (H : Hp) (args : Args) (us : List Value) (vs : List V) (Q : VK) (E : XK), RoomH k A -> Env0 P w K mg base A outer s H -> BindsTo s fd args (ps.zip us) -> Vals vs us -> sp vs H Q E ->
  codeAny (model P w) A (.call (.ref f) args) (CR CX0 outer P w H s Q E) s
theorem Inv.toH {P : Program} {w : World} {K : PySem.W.Frag} {mg : Str -> Option Value} {base : Heap} {N : List Str} {qual : Str} {scope : Scope} {f : Addr} {cd : Value} {A A0 : Around} {outer : List Env} {s s1 : Shared} {H H' : Hp} {E : XK} {pins : List (Addr × Obj)} {σ : St}
  (fr : (A.deeper (envOfC qual scope s.heap.objs.size f cd)).frames = some (envOfC qual scope s.heap.objs.size f cd :: outer)) (I : Inv (xU CX0 P w K mg base N qual scope f cd A0 outer s H E) pins σ H' s1) : Inv (cxH P w K mg base N qual scope f cd A outer s H E) pins σ H' s1 :=
 ⟨⟨I.ok.mod, I.ok.kind, I.ok.glob, I.ok.blt, I.ok.above, I.ok.inj, I.ok.has, I.ok.cab, fun z => (by cases z), fr, I.ok.stk, I.ok.exf, I.ok.bs, I.ok.bsz, I.ok.noex, I.ok.exfs, I.ok.funs, I.ok.frf⟩, I.os, I.bare, I.base, I.loc, I.cell, I.free, I.freeC, I.pin, I.hok, I.len⟩
theorem zEf {P : Program} {w : World} {K : PySem.W.Frag} {mg : Str -> Option Value} {base : Heap} {k : Nat} {f : Addr} {name qual : Str} {params : Arguments} {body : List Stmt} {scope : Scope} {dV kV doc pm cdv ct oc : Value} {an od : Option Addr}
  {osl : Array (Option Value)} {N ps : List Str} {sp : Sp} (lk : K.lookup f = some ⟨oc, od, .func (PySem.W.fnOf name qual params body scope dV kV doc pm an cdv ct), osl⟩) (hcd : PySem.W.codeIn K cdv qual = true) (S : zR N ps scope)
  (len : ∀ vs H Q E, sp vs H Q E -> vs.length = ps.length)
  (hbody : ∀ (A : Around) (outer : List Env) (s : Shared) (H : Hp) (vs : List V) (Q : VK) (E : XK), RoomH k (A.deeper (envOfC qual scope s.heap.objs.size f cdv)) -> sp vs H Q E ->
   ∃ t, PSs (cxH P w K mg base N qual scope f cdv A outer s H E) body t /\ t { nx := fun _ H' => Q .non H', rt := Q } (qM N vs) H) :
  zCn P w K mg base (k + 1) f (PySem.W.fnOf name qual params body scope dV kV doc pm an cdv ct) ps sp := by
 refine ⟨len, fun A outer s H args us vs Q E hr e0 hb r hsp => ?_⟩;have hl := len _ _ _ _ hsp;have KX : K.In s.heap := e0.mod.kin.keeps fun b o e => (e0.bs b o e).1;have lim : s.heap.NoLimit := e0.mod.nolimit.keeps fun b o e => (e0.bs b o e).1;have hkind : ∀ y ∈ ps.zip us, scope.names.lookup y.1 = some .local \/ (scope.names.lookup y.1 = some .cell /\ ((cellsFrom (s.heap.objs.size + 1) scope.names []).lookup y.1).isSome = true) := fun ⟨n, v⟩ hy => by
  rcases S.par n (List.of_mem_zip hy).1 with q | q
  ·exact .inl q
  ·exact .inr ⟨q, PySem.W.cellsFrom_some _ _ _ (.inl q)⟩
 refine codeAny_call_function (show A.depth < recursionLimit by have := hr.dp; omega) (KX _ _ lk) rfl S.co S.gen rfl (PySem.W.codeRec_of KX hcd) (hb _ _ _ _ ?_);refine wpAny_newFunctionEnv_cells S.kind hkind fun env he s1 x => ?_;subst he;refine ⟨lim.keeps x.toInCall.keep, codeAny_func ?_⟩;obtain ⟨t, ht, hq⟩ := hbody A outer s H vs Q E (hr.deeper _) hsp;have e1 : Env0 P w K mg base { A with handled := none } outer s H := ⟨e0.frames, e0.mod, e0.bs, e0.bsz, e0.funs, e0.frf, e0.hok, e0.bare⟩;have I0 : Inv (xU CX0 P w K mg base N qual scope f cdv { A with handled := none } outer s H E) [] (qM N vs) H s1 := zgh S rfl e1 hl r x;have I : Inv (cxH P w K mg base N qual scope f cdv A outer s H E) [] (qM N vs) H s1 := Inv.toH (Around.frames_deeper e0.frames) I0;refine wpAny_mono (ht [] s1 (qM N vs) H _ I hq) (fun fl s' hs => ?_) fun e s' hs => hs.elim;have fin : ∀ {σ' : St} {H' : Hp} {v : V} {u : Value}, Inv (cxH P w K mg base N qual scope f cdv A outer s H E) [] σ' H' s' -> RelV v u -> Q v H' -> CE outer P w H s Q u s' :=
  fun {σ' H' v u} J rv q => ⟨v, H', J.os, J.bare, J.base, J.hok, rv, q⟩
 cases fl with
 | ret u =>
  obtain ⟨v, σ', H', J, rv, q⟩ := hs;exact fin J rv q
 | next =>
  obtain ⟨σ', H', J, q⟩ := hs;exact fin (v := V.non) (u := Value.none) J rfl q
 | brk =>
  obtain ⟨_, _, _, q⟩ := hs;exact False.elim q
 | cont =>
  obtain ⟨_, _, _, q⟩ := hs;exact False.elim q
structure zBd (P : Program) (w : World) (K : PySem.W.Frag) (mg : Str -> Option Value) (base : Heap) (k : Nat) (x : Str) (ps : List Str) (sp : Sp) : Prop where
 ex : ∃ f fd, zCn P w K mg base k f fd ps sp /\ Binds K fd ps [] /\ mg x = some (.ref f) /\ PySem.W.keepIn K (.ref f) = true
theorem Src.defH {P : Program} {w : World} {K : PySem.W.Frag} {mg : Str -> Option Value} {base : Heap} {k : Nat} {x : Str} {st : Stmt} {N ps : List Str} {sp : Sp} (S : Src K mg x st ps) (sc : zR N ps (zH st)) (len : ∀ vs H Q E, sp vs H Q E -> vs.length = ps.length)
  (hbody : ∀ (f : Addr) (cdv : Value) (A : Around) (outer : List Env) (s : Shared) (H : Hp) (vs : List V) (Q : VK) (E : XK), RoomH k (A.deeper (envOfC x (zH st) s.heap.objs.size f cdv)) -> sp vs H Q E ->
   ∃ t, PSs (cxH P w K mg base N x (zH st) f cdv A outer s H E) (xJ st) t /\ t { nx := fun _ H' => Q .non H', rt := Q } (qM N vs) H) : zBd P w K mg base (k + 1) x ps sp := by
 obtain ⟨f, fd, F, b, m⟩ := S.ex;obtain ⟨oc, od, kV, doc, pm, an, cdv, ct, osl, e, lk, hcd⟩ := F.ex;subst e;exact ⟨f, _, zEf lk hcd sc len (hbody f cdv), b, m, F.kp⟩
theorem zyy {X : Cx} {k : Nat} {x : Str} {ps : List Str} {sp : Sp} {e : Expr} {es : List Expr} {t : TA} {p pos : Pos} (D : zBd X.prog X.w X.K X.mg X.base k x ps sp) (hr : RoomH k X.A) (hg : Gl X x) (ha : PA X (e :: es) t)
  (hdb : (x == ("__debug__" : Str)) = false := by decide) (he : starEach (e :: es) X.env = (false, eval e X.env) :: starEach es X.env := by rfl) (hpl : (backTo pos (starEach es X.env)).any (·.1) = false := by rfl) :
  PE X (.Call (.Name x p) (e :: es) [] pos) (zic sp [] E0 t) := by
 obtain ⟨f, fd, F, bd, m, kp⟩ := D.ex;intro pins s σ H Q I h;refine wpAny_Call_Name_kw (qW I hg m ?_ hdb);refine PySem.W.callWith_K (h₀ := X.base) I.ok.mod.kin kp (thn (ha pos pins s σ H _ I h) fun us s1 ⟨vs, H1, I1, r, q⟩ => ⟨I1.kIn, ?_⟩) he hpl;have r2 : Vals (vs ++ []) (us ++ []) := r.append .nil;have hl : (us ++ []).length = ps.length := by rw [<- r2.length]; exact F.len _ _ _ _ q
 refine wpAny_call (codeAny_mono (F.run X.A X.stack s1 H1 ⟨us, []⟩ (us ++ []) (vs ++ []) Q E0 hr I1.env0 (bd s1 us I1.kIn hl) r2 q) fun r s' hq => ?_);cases r with
 | error ev => exact False.elim hq
 | ok fl =>
  cases fl with
  | ret u => exact I1.after hq
  | next => exact False.elim hq
  | brk => exact False.elim hq
  | cont => exact False.elim hq
theorem zgv {us : List Value} {ns : List Int} (h : IntsAre us ns) : Vals (ns.map V.int) us := by
 induction h with
 | nil => exact .nil
 | cons n t _ ih => exact .cons ⟨t, rfl⟩ ih
section
variable {X : Cx}
def ztn (K : PySem.W.Frag) : List V -> Hp -> VK -> Prop := fun xs H Q => ∃ (p : Addr) (ns : List Int), xs = [.ref p] /\ SqL K H p (ns.map V.int) /\ ns.length < 64 /\ ∀ (l : Addr) (ms : List Int), ms.Perm ns -> ms.Pairwise (· <= ·) -> H l = none -> Q (.ref l) (upd H l (.lst (ms.map V.int)))
theorem zhb : vK X (.builtin "sorted") (ztn X.K) := by
 intro pins s σ H xs us Q I r h;obtain ⟨p, ns, rfl, hp, hn, q⟩ := h;obtain ⟨u, rfl, ru⟩ := Vals.one r;cases (show u = Value.ref p from ru)
 obtain ⟨its, r1, t1, _⟩ := I.list hp;have hl : its.length = ns.length := by have := r1.length; rw [Qj] at this; lia
 refine sorted_ints t1.isList (zmp r1) (by lia) fun out ms a1 a2 a3 => ?_;obtain ⟨e, he⟩ := sortedAll_at s.heap its out;have fr : s.heap.objs.size <= s.heap.objs.size + 1 := Nat.le_succ _;refine ⟨.ref (s.heap.objs.size + 1), upd H (s.heap.objs.size + 1) (.lst (ms.map V.int)), I.laid (t' := s.toks) (fun b o z => sortedAll_old z) fr ?_, rfl, q _ ms a2 a3 (I.hok.fresh fr)⟩;refine ⟨?_, out.toList, e, zgv a1, by rw [he]⟩;rw [Qj, a2.length_eq];exact Qc (Qu hn) (by decide)
end
end L2
namespace L2
open PySem PySem.Spec PyProof.Rows PySem.W
abbrev TSX := gP -> (St -> XK) -> St -> Hp -> Prop
def XP (X : Cx) (pins : List (Addr × Obj)) (DX : St -> XK) (e : Value) (s' : Shared) : Prop := ∃ σ H s, Inv X pins σ H s /\ CXr X.prog X.w X.stack H s (DX σ) e s'
section
variable {X : Cx}
end
end L2
namespace L2
open PySem PySem.Spec PyProof.Rows
section
variable {X : Cx}
def zBv (K : PySem.W.Frag) : R2 := fun x y H Q => ∃ a b xs ys, x = .ref a /\ y = .ref b /\ H a = some (.tup xs) /\ H b = some (.tup ys) /\ xs.length + ys.length <= sizeLine /\ ∀ p H', Same H H' -> H' p = some (.tup (xs ++ ys)) -> Q (.ref p) H'
theorem zzh : OpR X (binaryOp .Add) (zBv X.K) := by
 intro pins s σ H x y v u Q I rx ry h;obtain ⟨a, b, xs, ys, rfl, rfl, ha, hb, hz, q⟩ := h;by_cases hx : xs = []
 ·subst hx;exact zop pins s σ H _ _ v u Q I rx ry ⟨a, b, ys, rfl, rfl, SqT.of ha, SqT.of hb, q b H (Same.refl H) hb⟩
 ·refine zoo pins s σ H _ _ v u Q I rx ry ⟨a, b, xs, ys, rfl, rfl, SqT.of ha, SqT.of hb, hx, hz, fun hy => ?_, fun hy p hp => q p _ (Same.new hp) zB⟩;subst hy;exact q a H (Same.refl H) (by rw [Jp]; exact ha)
end
section
variable {κ : Type} [DecidableEq κ]
def zdh (kvs : List (κ × V)) (k : κ) : Option V := (kvs.find? fun kv => decide (kv.1 = k)).map (·.2)
def zfd (kvs : List (κ × V)) (k : κ) (v : V) : List (κ × V) :=
 if (kvs.any fun kv => decide (kv.1 = k)) = true then kvs.map (fun kv => if kv.1 = k then (kv.1, v) else kv) else kvs ++ [(k, v)]
theorem zah {p : κ × V} {r : List (κ × V)} {k : κ} (e : p.1 = k) : zdh (p :: r) k = some p.2 := by simp [zdh, Jf, e]
theorem zai {p : κ × V} {r : List (κ × V)} {k : κ} (e : ¬ p.1 = k) : zdh (p :: r) k = zdh r k := by simp [zdh, Jf, e]
theorem zeh (k : κ) : ∀ kvs : List (κ × V), (kvs.any fun kv => decide (kv.1 = k)) = (zdh kvs k).isSome
 | [] => rfl
 | p :: r => by
  rw [Wh];by_cases e : p.1 = k
  ·simp only [zah e, Qb e, Bool.true_or, Option.isSome_some]
  ·rw [zai e, Qv e, Bool.false_or]; exact zeh k r
theorem zcd (kvs : List (κ × V)) (k : κ) (v : V) : (zfd kvs k v).length <= kvs.length + 1 := by
 unfold zfd;split
 ·rw [Qj]; lia
 ·rw [Ql, Q1, List.length_nil]; lia
theorem ztq {kvs : List (κ × V)} {k : κ} (v : V) (h : zdh kvs k = none) : zfd kvs k v = kvs ++ [(k, v)] := by
 unfold zfd;rw [zeh, h];exact if_neg (by decide)
theorem RelO.isSome_eq {o : Option V} {u : Option Value} (r : RelO o u) : o.isSome = u.isSome := by
 cases o with
 | none => cases u with
  | none => rfl
  | some _ => exact (show False from r).elim
 | some _ => cases u with
  | none => exact (show False from r).elim
  | some _ => rfl
theorem KV.val {kvs : List (κ × V)} {vs : List (κ × Value)} (r : KV kvs vs) (k : κ) : RelO (zdh kvs k) (valueAt vs k) := by
 unfold KV at r
 induction r with
 | nil => exact True.intro
 | @cons p q ps qs h t ih =>
  obtain ⟨h1, h2⟩ := h;by_cases e : p.1 = k
  ·have e' : q.1 = k := h1.symm.trans e;have b : valueAt (q :: qs) k = some q.2 := by simp [valueAt, Jf, e']
   rw [zah e, b]; exact h2
  ·have e' : ¬ q.1 = k := fun z => e (h1.trans z);have b : valueAt (q :: qs) k = valueAt qs k := by simp [valueAt, Jf, e']
   rw [zai e, b]; exact ih
theorem KV.any {kvs : List (κ × V)} {vs : List (κ × Value)} (r : KV kvs vs) (k : κ) : (kvs.any fun kv => decide (kv.1 = k)) = vs.any fun kv => decide (kv.1 = k) := by
 unfold KV at r
 induction r with
 | nil => rfl
 | cons h t ih => rw [Wh, Wh, ih, h.1]
theorem KV.repl {kvs : List (κ × V)} {vs : List (κ × Value)} (r : KV kvs vs) (k : κ) {y : V} {u : Value} (ry : RelV y u) :
  KV (kvs.map fun kv => if kv.1 = k then (kv.1, y) else kv) (vs.map fun kv => if kv.1 = k then (kv.1, u) else kv) := by
 unfold KV at r ⊢
 induction r with
 | nil => exact .nil
 | @cons p q ps qs h t ih =>
  rw [Jq, Jq];refine .cons ?_ ih;obtain ⟨h1, h2⟩ := h;by_cases e : p.1 = k
  ·rw [if_pos e, if_pos (h1.symm.trans e)]; exact ⟨h1, ry⟩
  ·rw [if_neg e, if_neg (fun z => e (h1.trans z))]; exact ⟨h1, h2⟩
theorem KV.put {kvs : List (κ × V)} {vs : List (κ × Value)} (r : KV kvs vs) (k : κ) {y : V} {u : Value} (ry : RelV y u) : KV (zfd kvs k y) (stored vs k u) := by
 unfold zfd stored;rw [r.any k];by_cases e : (vs.any fun kv => decide (kv.1 = k)) = true
 ·rw [if_pos e, if_pos e]; exact r.repl k ry
 ·rw [if_neg e, if_neg e]; exact Paired.snoc r ⟨rfl, ry⟩
theorem KV.length {kvs : List (κ × V)} {vs : List (κ × Value)} (r : KV kvs vs) : kvs.length = vs.length := Paired.length r
end
theorem zse {P : Program} {w : World} {k : Key} {u : Value} (r : RelV (kV k) u) : (vA P w).is k u = true := by
 cases k with
 | inl i => obtain ⟨t, e⟩ := (show ∃ t, u = Value.int i t from r); subst e; exact zjl P w i t
 | inr x => obtain ⟨t, e⟩ := (show ∃ t, u = Value.str x t from r); subst e; exact zjk P w x t
theorem zge {P : Program} {w : World} : ∀ {ks : List Key} {us : List Value}, Vals (ks.map kV) us -> ItemsAre (vA P w) ks us
 | [], _, r => by rw [List.map_nil] at r; cases r; exact .nil
 | k :: ks, _, r => by
  rw [Jq] at r;cases r with
  | cons h t => exact .cons (zse h) (zge t)
abbrev KT (H : Hp) : List (List Key × V) -> List (List Key × Addr × Value) -> Prop := Paired fun p q => p.1 = q.1 /\ H q.2.1 = some (.tup (p.1.map kV)) /\ RelV p.2 q.2.2
theorem KT.val {H : Hp} {kvs : List (List Key × V)} {xs : List (List Key × Addr × Value)} (r : KT H kvs xs) (k : List Key) : RelO (zdh kvs k) ((atKey xs k).map (·.2)) := by
 induction r with
 | nil => exact True.intro
 | @cons p q ps qs h t ih =>
  obtain ⟨h1, _, h2⟩ := h;by_cases e : p.1 = k
  ·have e' : q.1 = k := h1.symm.trans e;have b : atKey (q :: qs) k = some q.2 := by simp [atKey, Jf, e']
   rw [zah e, b]; exact h2
  ·have e' : ¬ q.1 = k := fun z => e (h1.trans z);have b : atKey (q :: qs) k = atKey qs k := by simp [atKey, Jf, e']
   rw [zai e, b]; exact ih
theorem KT.repl {H : Hp} {kvs : List (List Key × V)} {xs : List (List Key × Addr × Value)} (r : KT H kvs xs) (k : List Key) {y : V} {u : Value} (ry : RelV y u) :
  KT H (kvs.map fun kv => if kv.1 = k then (kv.1, y) else kv) (xs.map (putAt k u)) := by
 induction r with
 | nil => exact .nil
 | @cons p q ps qs h t ih =>
  rw [Jq, Jq];refine .cons ?_ ih;obtain ⟨h1, h2, h3⟩ := h;unfold putAt;by_cases e : p.1 = k
  ·rw [if_pos e, if_pos (h1.symm.trans e)]; exact ⟨h1, h2, ry⟩
  ·rw [if_neg e, if_neg (fun z => e (h1.trans z))]; exact ⟨h1, h2, h3⟩
theorem KT.put {H : Hp} {kvs : List (List Key × V)} {xs : List (List Key × Addr × Value)} (r : KT H kvs xs) (k : List Key) {b : Addr} {y : V} {u : Value} (hb : H b = some (.tup (k.map kV))) (ry : RelV y u) :
  KT H (zfd kvs k y) (storedH xs k b u) := by
 have e : (kvs.any fun kv => decide (kv.1 = k)) = (atKey xs k).isSome := by
  rw [zeh, (r.val k).isSome_eq, Option.isSome_map]
 unfold zfd storedH;rw [e];by_cases q : (atKey xs k).isSome = true
 ·rw [if_pos q, if_pos q]; exact r.repl k ry
 ·rw [if_neg q, if_neg q]; exact Paired.snoc r ⟨rfl, hb, ry⟩
theorem KT.keeps {H H' : Hp} {kvs : List (List Key × V)} {xs : List (List Key × Addr × Value)} (r : KT H kvs xs) (ht : ∀ b ys, H b = some (.tup ys) -> H' b = some (.tup ys)) : KT H' kvs xs :=
 Paired.mapP r fun _ _ z => ⟨z.1, ht _ _ z.2.1, z.2.2⟩
section
variable {P : Program} {w : World} {H : Hp} {h : Heap} {a : Addr}
theorem zBt {u : HO} (ok : HOk P w H h) (e : Rd H a u) : ObjOk P w H h a u := e.ok ok
theorem zsi {kvs : List (Key × V)} (ok : HOk P w H h) (e : Rd H a (.dK kvs)) : kvs.length <= sizeLine /\ (a == sysModules) = false /\ ∃ vs, KV kvs vs /\ h.DictOf (vA P w) a vs :=
 show ObjOk P w H h a (.dK kvs) from zBt ok e
theorem dk_of {kvs : List (Key × V)} (ok : HOk P w H h) (e : H a = some (.dK kvs)) : kvs.length <= sizeLine /\ (a == sysModules) = false /\ ∃ vs, KV kvs vs /\ h.DictOf (vA P w) a vs := zsi ok (.inl e)
theorem ziw {ks : List Key} (ok : HOk P w H h) (e : H a = some (.tup (ks.map kV))) : (tupleKind (vA P w)).is h ks a := by
 obtain ⟨_, its, r, o, h1, h2, n, h3⟩ := (show ObjOk P w H h a (.tup (ks.map kV)) from ok a _ e);exact ⟨o, its.toArray, n, h1, h2, h3, by simpa using zge r⟩
theorem zsh {kvs : List (List Key × V)} (ok : HOk P w H h) (e : Rd H a (.dT kvs)) : kvs.length <= sizeLine /\ (a == sysModules) = false /\
  ∃ xs, KT H kvs xs /\ h.DictOfH (tupleKind (vA P w)) a xs := by
 obtain ⟨z, y, xs, r, o, es, ep, h1, h2, h3, h4, h5⟩ := (show ObjOk P w H h a (.dT kvs) from zBt ok e);refine ⟨z, y, xs, r, o, es, ep, h1, h2, h3, h4, fun x hx => ?_, h5⟩;have all : ∀ {l : List (List Key × V)} {m : List (List Key × Addr × Value)}, KT H l m -> ∀ x ∈ m, (tupleKind (vA P w)).is h x.1 x.2.1 := by
  intro l m q
  induction q with
  | nil => intro x hx; exact nomatch hx
  | @cons p q ps qs hq t ih =>
   intro x hx;rcases Qy.mp hx with e | hx
   ·subst e;exact ziw ok (by rw [<- hq.1]; exact hq.2.1)
   ·exact ih x hx
 exact all r x hx
theorem zHi {kvs : List (List Key × V)} (ok : HOk P w H h) (e : H a = some (.dT kvs)) : kvs.length <= sizeLine /\ (a == sysModules) = false /\
  ∃ xs, KT H kvs xs /\ h.DictOfH (tupleKind (vA P w)) a xs := zsh ok (.inl e)
end
def DGet (H : Hp) (a : Addr) (y : V) (r : Option V) : Prop :=
 (∃ kvs k, Rd H a (.dK kvs) /\ y = kV k /\ r = zdh kvs k) \/ ∃ kvs k b, Rd H a (.dT kvs) /\ y = .ref b /\ H b = some (.tup (k.map kV)) /\ r = zdh kvs k
def DPut (H : Hp) (a : Addr) (y v : V) (H' : Hp) : Prop :=
 (∃ kvs k, H a = some (.dK kvs) /\ y = kV k /\ kvs.length < sizeLine /\ H' = upd H a (.dK (zfd kvs k v))) \/
 ∃ kvs k b, H a = some (.dT kvs) /\ y = .ref b /\ H b = some (.tup (k.map kV)) /\ kvs.length < sizeLine /\ H' = upd H a (.dT (zfd kvs k v))
theorem DGet.k {H : Hp} {a : Addr} {kvs : List (Key × V)} {k : Key} (e : H a = some (.dK kvs)) : DGet H a (kV k) (zdh kvs k) := .inl ⟨kvs, k, .inl e, rfl, rfl⟩
theorem DPut.k {H : Hp} {a : Addr} {kvs : List (Key × V)} {k : Key} {v : V} (e : H a = some (.dK kvs)) (hl : kvs.length < sizeLine) : DPut H a (kV k) v (upd H a (.dK (zfd kvs k v))) := .inl ⟨kvs, k, e, rfl, hl, rfl⟩
section
variable {X : Cx} {pins : List (Addr × Obj)} {σ : St} {H : Hp} {s : Shared} {a : Addr} {y v : V} {u r : Value} {o : Option V} {A : Around} {E : Value -> Shared -> Prop}
theorem Inv.big (I : Inv X pins σ H s) : sysModules < s.heap.objs.size := by
 have h : mainGlobals < s.heap.objs.size := (I.mod.glob.keeps I.bk).lt;exact Nat.lt_trans (by decide) h
theorem zrg {Q : Value -> Shared -> Prop} (hu : A.units + 1 < cLine) (I : Inv X pins σ H s) (g : DGet H a y (some v)) (ry : RelV y u) (h : ∀ w' s', Inv X pins σ H s' -> RelV v w' -> Q w' s') :
  wpAny (model X.prog X.w) A (getItem (.ref a) u) Q E s := by
 rcases g with ⟨kvs, k, e, ey, l⟩ | ⟨kvs, k, b, e, ey, eb, l⟩
 ·subst ey;obtain ⟨z, hd, vs, rel, dd⟩ := zsi I.hok e;obtain ⟨w', hw, rw'⟩ := RelO.some_of (v := v) (o := valueAt vs k) (by rw [l]; exact rel.val k);exact wpAny_getItem_of (zse ry) dd.mapOf hw (h w' _ (I.tok _) rw')
 ·subst ey;cases (show u = Value.ref b from ry)
  obtain ⟨z, hd, xs, rel, dd⟩ := zsh I.hok e;obtain ⟨w', hw, rw'⟩ := RelO.some_of (v := v) (o := (atKey xs k).map (·.2)) (by rw [l]; exact rel.val k);obtain ⟨p, hp, hp2⟩ := Option.map_eq_some_iff.mp hw;refine wpAny_getItem_heap (tupleKind_room_in1 hu) (ziw I.hok eb) dd hp ?_;rw [hp2];exact h w' _ (I.tok _) rw'
theorem zAl {Q : Value -> Shared -> Prop} (hu : A.units + 1 < cLine) (I : Inv X pins σ H s) (g : DGet H a y o) (ry : RelV y u) (h : ∀ s', Inv X pins σ H s' -> Q (.bool (!o.isSome)) s') :
  wpAny (model X.prog X.w) A (compareOp .NotIn u (.ref a)) Q E s := by
 rcases g with ⟨kvs, k, e, ey, l⟩ | ⟨kvs, k, b, e, ey, eb, l⟩
 ·subst ey;obtain ⟨z, hd, vs, rel, dd⟩ := zsi I.hok e;refine wpAny_notIn_of (zse ry) hd dd.mapOf ?_;rw [<- (rel.val k).isSome_eq, <- l];exact h _ (I.tok _)
 ·subst ey;cases (show u = Value.ref b from ry)
  obtain ⟨z, hd, xs, rel, dd⟩ := zsh I.hok e;refine wpAny_notIn_heap (tupleKind_room_in1 hu) (ziw I.hok eb) hd dd ?_;have q := (rel.val k).isSome_eq;rw [Option.isSome_map] at q;rw [<- q, <- l];exact h _ (I.tok _)
theorem zpj {h' : Heap} {t' : Nat} {ob : HO} (I : Inv X pins σ H s) (mu : Mut (H a)) (hs : Heap.SameBut a s.heap h') (he : ∃ q, h'.get? a = some q) (new : ObjOk X.prog X.w (upd H a ob) h' a ob) :
  Inv X pins σ (upd H a ob) { s with heap := h', toks := t' } :=
 I.write (x := a) (e := a) mu (.inl rfl) (fun b q hb z => (hs.2 b hb).trans z) he new
theorem zEh {P : Program} {w : World} {H' : Hp} {h' : Heap} {kvs : List (Key × V)} {vs : List (Key × Value)} (z : kvs.length <= sizeLine) (hd : (a == sysModules) = false) (rel : KV kvs vs) (dd : h'.DictOf (vA P w) a vs) :
  ObjOk P w H' h' a (.dK kvs) := ⟨z, hd, vs, rel, dd⟩
theorem zre {H' : Hp} {Q : Unit -> Shared -> Prop} (hu : A.units + 1 < cLine) (I : Inv X pins σ H s) (g : DPut H a y v H') (ry : RelV y u) (rv : RelV v r) (h : ∀ s', Inv X pins σ H' s' -> Q () s') :
  wpAny (model X.prog X.w) A (setItem (.ref a) u r) Q E s := by
 rcases g with ⟨kvs, k, e, ey, l, eH⟩ | ⟨kvs, k, b, e, ey, eb, l, eH⟩
 ·subst ey eH;obtain ⟨z, hd, vs, rel, dd⟩ := dk_of I.hok e;have hz : vs.length <= sizeLine := by rw [<- rel.length]; exact z
  have hl : (zfd kvs k v).length <= sizeLine := by have := zcd kvs k v; lia
  refine wpAny_setItem_pairs (hsz := hz) (zse ry) dd fun h' dd' hs => h _ ?_;have he : ∃ q, h'.get? a = some q := let ⟨q, _, _, hq, _⟩ := dd'; ⟨q, hq⟩;exact zpj I (by rw [e]; exact True.intro) hs he (zEh hl hd (rel.put k rv) dd')
 ·subst ey eH;cases (show u = Value.ref b from ry)
  obtain ⟨z, hd, xs, rel, dd⟩ := zHi I.hok e;have hz : xs.length <= sizeLine := by rw [<- Paired.length rel]; exact z
  have hl : (zfd kvs k v).length <= sizeLine := by have := zcd kvs k v; lia
  refine wpAny_setItem_heap (hsz := hz) (tupleKind_room_in1 hu) (ziw I.hok eb) dd fun h' dd' hs => h _ ?_;obtain ⟨q, es, ep, hq, h2, h3, h4, _, h5⟩ := dd';refine zpj I (by rw [e]; exact True.intro) hs ⟨q, hq⟩ ⟨hl, hd, _, (rel.put k eb rv).keeps fun c ys ec => ?_, q, es, ep, hq, h2, h3, h4, h5⟩;rw [zS (kU ec e (fun z => nomatch z))]
  exact ec
end
section
variable {X : Cx} {pins : List (Addr × Obj)} {σ : St} {H : Hp} {s : Shared} {a : Addr} {kvs : List (Key × V)} {k : Key} {u : Value} {A : Around} {E : Value -> Shared -> Prop}
end
def zIl (i : Expr) : Prop := ∀ ov iv, subscripted i false ov iv = operate [ov, iv] (getItem ov iv)
theorem zxy {prog : Program} {w : World} {A : Around} {E : Value -> Shared -> Prop} {s : Shared} {env : Env} {value slice : Expr} {pos : Pos} {T id : String} {Q : Value -> Shared -> Prop}
  (hl : typeLookup (.type T) "__getitem__" = pure (some (.builtin id))) (hs : zIl slice)
  (h : wpAny (model prog w) A (eval value env) (fun o s₁ => wpAny (model prog w) A (eval slice env) (fun i s₂ => s₂.TypeIs o T /\ wpAny (model prog w) A (getItem o i) Q E s₂) E s₁) E s) :
  wpAny (model prog w) A (eval (.Subscript value slice pos) env) Q E s := by
 refine Subscript_ (wpAny_mono h (fun o s₁ h₁ => wpAny_mono h₁ (fun i s₂ h₂ => ?_) fun _ _ x => x) fun _ _ x => x);obtain ⟨hT, h₂⟩ := h₂;unfold subscriptTail;refine Qq ?_;rw [getitemInPython_of_ne hT.not_modules];refine Qq (wpAny_specialOf hT hl ?_);have fin : wpAny (model prog w) A (subscripted slice false o i) (fun r s₃ => wpAny (model prog w) A (letTemporaryGo value o r >>= fun _ => pure r) Q E s₃) E s₂ := by
  rw [hs o i];exact wpAny_operating (wpAny_mono h₂ (fun r s₃ h₃ => Qq (wpAny_letTemporaryGo (Qr h₃))) fun _ _ x => x)
 first
  | exact Qr (Qq fin)
  | exact Qq (Qr (Qq fin))
  | exact Qq fin
theorem zjq {X : Cx} {pins : List (Addr × Obj)} {σ : St} {H : Hp} {s : Shared} {a : Addr} {y : V} {o : Option V} (I : Inv X pins σ H s) (g : DGet H a y o) : s.TypeIs (.ref a) "dict" := by
 rcases g with ⟨kvs, k, e, _, _⟩ | ⟨kvs, k, b, e, _, _, _⟩
 ·obtain ⟨_, _, vs, _, dd⟩ := zsi I.hok e;exact dd.typeIs
 ·obtain ⟨_, _, xs, _, dd⟩ := zsh I.hok e;exact dd.typeIs
def zGi (td ty : TE) : TE := fun σ H Q => td σ H fun x H1 => ty σ H1 fun y H2 => ∃ a v, x = .ref a /\ DGet H2 a y (some v) /\ Q v H2
def zxx (ty td : TE) : TE := fun σ H Q => ty σ H fun y H1 => td σ H1 fun x H2 => ∃ a o, x = .ref a /\ DGet H2 a y o /\ Q (.bl (!o.isSome)) H2
def zGo (td ty tv : TE) : TS := fun D σ H => tv σ H fun v H1 => td σ H1 fun x H2 => ty σ H2 fun y H3 => ∃ a H4, x = .ref a /\ DPut H3 a y v H4 /\ D.nx σ H4
section
variable {X : Cx} {o i e value : Expr} {pos pos' tpos : Pos} {td ty tv : TE}
theorem zyx (hu : X.A.units + 1 < cLine) (ho : PE X o td) (hi : PE X i ty) (hs : zIl i) : PE X (.Subscript o i pos) (zGi td ty) := by
 intro pins s σ H Q I h;refine zxy PySem.F.slot_dict_getitem.lookup hs (thn (ho pins s σ H _ I h) fun u s1 ⟨x, H1, I1, rx, q1⟩ => thn (hi pins s1 σ H1 _ I1 q1) fun iv s2 ⟨y, H2, I2, ry, a, v, ex, g, q2⟩ => ?_);subst ex;obtain rfl : u = Value.ref a := rx;exact ⟨zjq I2 g, zrg hu I2 g ry fun w' s3 I3 rw' => ⟨v, H2, I3, rw', q2⟩⟩
theorem zqd (hu : X.A.units + 1 < cLine) (hi : PE X i ty) (ho : PE X o td) : PC X .NotIn i o (zxx ty td) := by
 intro pins s σ H Q I h;refine thn (hi pins s σ H _ I h) fun iv s1 ⟨y, H1, I1, ry, q1⟩ => thn (ho pins s1 σ H1 _ I1 q1) fun u s2 ⟨x, H2, I2, rx, a, ov, ex, g, q2⟩ => ?_;subst ex;obtain rfl : u = Value.ref a := rx;exact zAl hu I2 g ry fun s3 I3 => ⟨.bl (!ov.isSome), H2, I3, rfl, q2⟩
theorem zyt (hu : X.A.units + 1 < cLine) (ho : PE X o td) (hi : PE X i ty) (hv : PE X value tv) (hs : swapsWith value (some (.Subscript o i pos')) pos.line X.env = pure false) :
  PS X (.Assign [.Subscript o i pos'] value pos) (zGo td ty tv) := by
 intro pins s σ H D I h;refine wpAny_Assign_Subscript (thn (hv pins s σ H _ I h) fun r s1 ⟨v, H1, I1, rv, q1⟩ => thn (ho pins s1 σ H1 _ I1 q1) fun u s2 ⟨x, H2, I2, rx, q2⟩ => thn (hi pins s2 σ H2 _ I2 q2) fun iv s3 ⟨y, H3, I3, ry, a, H4, ex, g, q3⟩ => ?_) hs;subst ex;obtain rfl : u = Value.ref a := rx;exact zre hu I3 g ry rv fun s4 I4 => ⟨σ, H4, I4, q3⟩
end
theorem zuw {P : Program} {w : World} {H : Hp} (h : Heap) (hb : sysModules < h.objs.size) : ObjOk P w H (h.push { cls := .type "dict", data := .dict #[] }) h.objs.size (.dK []) :=
 ⟨Jw _, beq_eq_false_iff_ne.mpr (Ne.symm (Qd hb)), [], .nil, Heap.DictOf.new h⟩
def zCx : TE := fun _ H Q => ∀ p, H p = none -> Q (.ref p) (upd H p (.dK []))
section
variable {X : Cx} {pos : Pos}
theorem ztv : PE X (.Dict [] [] pos) zCx := fun pins s σ H Q I h =>
 wpAny_Dict_empty ⟨.ref s.heap.objs.size, _, I.laid (a := s.heap.objs.size) (o := .dK []) (t' := s.toks) (fun _ _ q => Qz _ q) (Qx _) (zuw s.heap I.big), rfl, h _ (I.hok.fresh (Qx _))⟩
end
section
variable {X : Cx} {pins : List (Addr × Obj)} {σ : St} {H : Hp} {s : Shared} {a : Addr} {y d : V} {u r : Value} {o : Option V} {A : Around} {E : Value -> Shared -> Prop}
end
section
variable {X : Cx} {o e f : Expr} {apos cpos : Pos} {td ty tx : TE}
end
section
variable {X : Cx} {pins : List (Addr × Obj)} {σ : St} {H : Hp} {s : Shared} {a : Addr} {kvs : List (Key × V)} {A : Around} {E : Value -> Shared -> Prop}
end
section
variable {X : Cx} {pins : List (Addr × Obj)} {σ : St} {H : Hp} {s : Shared} {a : Addr} {y : V} {u : Value} {A : Around} {E : Value -> Shared -> Prop}
end
section
variable {prog : Program} {w : World} {A : Around} {E : Value -> Shared -> Prop} {s : Shared} {it d v : Addr} {i ep : Nat} {es : Array DictEntry} {o : Obj}
end
abbrev zFr := List (List Key × V)
section
variable {X : Cx} {pins : List (Addr × Obj)} {σ : St} {H : Hp} {s : Shared} {d : Addr} {kvs : zFr}
end
def zFz (v d : Addr) : HO := .ext fun h => h.IsItemsView v d
section
variable {X : Cx}
end
def zJk (d : Addr) (o : Obj) (kvs : zFr) : It :=
 ⟨fun i H => H d = some (.frz o (.dT kvs)) /\ i < kvs.length, fun i H x H' => ∃ T b k v, x = .ref T /\ H T = none /\ kvs[i]? = some (k, v) /\ H b = some (.tup (k.map kV)) /\ H' = upd H T (.tup [.ref b, v]), fun i H => H d = some (.frz o (.dT kvs)) /\ kvs.length <= i⟩
def iDI (tv : TE) : TI := fun σ H R => tv σ H fun x H1 => ∃ v d kvs, x = .ref v /\ H1 v = some (zFz v d) /\ H1 d = some (.dT kvs) /\ ∀ o, R (zJk d o kvs) (upd H1 d (.frz o (.dT kvs)))
end L2
namespace L2
open PySem PySem.W PyProof.Rows
section
variable {lt : Nat -> Nat -> Bool} {N : Nat}
end
end L2
namespace L2
open PySem PySem.W PyProof.Rows
section
variable {prog : Program} {w : World} {A : Around} {E : Value -> Shared -> Prop} {s : Shared}
end
end L2
namespace L2
open PySem PySem.W PyProof.Rows
section
variable {prog : Program} {w : World} {A : Around} {E : Value -> Shared -> Prop} {s : Shared}
end
section
variable {X : Cx}
end
end L2
namespace L2
open PySem PySem.Spec PyProof.Rows
theorem zpa {k : Kd} {K : PySem.W.Frag} {a : Addr} {xs : List V} {g : TG} {tb : TS} {D : gP} {σ : St} {H : Hp} (Pv : Nat -> St -> Hp -> Prop) (h0 : Pv 0 σ H) (hl : ∀ i σ H, i <= xs.length -> Pv i σ H -> SqK k K H a xs)
  (hs : ∀ i x σ H, xs[i]? = some x -> Pv i σ H -> g x σ H fun σ2 H2 => tb { D with nx := Pv (i + 1), ct := Pv (i + 1), bk := D.nx } σ2 H2) (hd : ∀ σ H, Pv xs.length σ H -> D.nx σ H) :
  ∃ W : Nat -> Nat -> St -> Hp -> Prop, (∃ m, W 0 m σ H) /\ ∀ i m σ H, W i m σ H ->
   ((ItK k K a).stop i H /\ D.nx σ H) \/ ((ItK k K a).go i H /\ ∃ N : St -> Hp -> Prop, (∀ σ' H', N σ' H' -> ∃ m', m' < m /\ W (i + 1) m' σ' H') /\ ∀ x H', (ItK k K a).yld i H x H' -> g x σ H' fun σ2 H2 => tb { D with nx := N, ct := N, bk := D.nx } σ2 H2) := by
 cases k with
 | l => exact zuq Pv h0 hl hs hd
 | t => exact zzz Pv h0 hl hs hd
section
variable {X : Cx}
end
section
open PySem.SeqAt
open PySem.AutoSeq1 (wpAny_loadPart')
open PySem.MeetsSeq PySem.MeetsSeq2 PySem.MeetsSeq3
end
section
variable {X : Cx}
end
section
variable {prog : Program} {w : World} {A : Around} {E : Value -> Shared -> Prop} {s : Shared} {it l : Addr} {its : Array Value}
end
section
variable {X : Cx}
end
section
variable {prog : Program} {w : World} {A : Around} {E : Value -> Shared -> Prop} {s : Shared} {a : Addr} {led : Bool} {ns : List Int}
end
section
variable {prog : Program} {w : World} {A : Around} {R : Result -> Shared -> Prop} {I : Addr} {fp wr : List Addr} {G : Array GenState -> Array GenState -> Prop} {n : Nat} {P : Nat -> Value -> Prop} {St : Nat -> Shared -> Prop}
end
section
variable {prog : Program} {w : World} {A : Around} {E : Value -> Shared -> Prop} {s : Shared}
set_option maxHeartbeats 8000000 in
end
section
variable {prog : Program} {w : World} {A : Around} {E : Value -> Shared -> Prop} {s : Shared} {it a : Addr} {o : Obj} {es : Array (Int × Value)} {ep i : Nat} {t : SetTable} {slot : Nat}
end
section
variable {prog : Program} {w : World} {A : Around} {E : Value -> Shared -> Prop} {s : Shared} {it a : Addr} {o : Obj} {es : Array (Int × Value)} {ep i : Nat} {t : SetTable} {slot : Nat}
end
section
variable {prog : Program} {w : World} {A : Around} {E : Value -> Shared -> Prop} {s : Shared} {a : Addr} {o : Obj} {es : Array (Int × Value)} {ep : Nat} {t : SetTable}
end
section
variable {prog : Program} {w : World} {A : Around} {E : Value -> Shared -> Prop} {s : Shared} {a : Addr}
end
section
variable {X : Cx}
end
section
variable {prog : Program} {w : World} {A : Around} {E : Value -> Shared -> Prop} {s : Shared}
end
section
variable {X : Cx}
end
end L2
namespace L2
open PySem PySem.W PyProof.Rows
section
variable {prog : Program} {w : World} {A : Around} {E : Value -> Shared -> Prop} {s : Shared} {κ : SortKind} {it : Array Keyed} {lt : Nat -> Nat -> Bool} {N : Nat}
end
end L2
namespace L2
open PySem PySem.W PyProof.Rows
section
variable {lt : Nat -> Nat -> Bool}
end
section
variable {prog : Program} {w : World} {A : Around} {E : Value -> Shared -> Prop} {s : Shared} {κ : SortKind} {it : Array Keyed} {lt : Nat -> Nat -> Bool} {N : Nat}
end
end L2
namespace L2
open PySem PySem.W PyProof.Rows
section
variable {prog : Program} {w : World} {A : Around} {E : Value -> Shared -> Prop} {s : Shared} {κ : SortKind} {it : Array Keyed} {lt : Nat -> Nat -> Bool} {N : Nat}
end
end L2
namespace L2
open PySem PySem.W PyProof.Rows
section
variable {prog : Program} {w : World} {A : Around} {E : Value -> Shared -> Prop} {s : Shared} {κ : SortKind} {it : Array Keyed} {lt : Nat -> Nat -> Bool} {N : Nat}
end
end L2
namespace L2
open PySem PySem.W PyProof.Rows
section
variable {prog : Program} {w : World} {A : Around} {E : Value -> Shared -> Prop} {s : Shared} {κ : SortKind} {it : Array Keyed} {lt : Nat -> Nat -> Bool} {N : Nat}
end
end L2
namespace L2
open PySem PySem.W PyProof.Rows
section
variable {prog : Program} {w : World} {A : Around} {E : Value -> Shared -> Prop} {s : Shared} {κ : SortKind} {it : Array Keyed} {lt : Nat -> Nat -> Bool} {N : Nat}
end
end L2
namespace L2
open PySem PySem.W PyProof.Rows
section
variable {prog : Program} {w : World} {A : Around} {E : Value -> Shared -> Prop} {s : Shared} {κ : SortKind} {it : Array Keyed} {lt : Nat -> Nat -> Bool} {N : Nat}
end
end L2
namespace L2
open PySem PySem.W PyProof.Rows
section
variable {prog : Program} {w : World} {A : Around} {E : Value -> Shared -> Prop} {s : Shared} {κ : SortKind} {it : Array Keyed} {lt : Nat -> Nat -> Bool} {N : Nat}
end
end L2
namespace L2
open PySem PySem.W PyProof.Rows
section
variable {prog : Program} {w : World} {A : Around} {E : Value -> Shared -> Prop} {s : Shared} {κ : SortKind} {it : Array Keyed} {lt : Nat -> Nat -> Bool} {N : Nat}
end
end L2
namespace L2
open PySem PySem.W PyProof.Rows
section
variable {prog : Program} {w : World} {A : Around} {E : Value -> Shared -> Prop} {s : Shared}
end
end L2
namespace L2
open PySem PySem.W PyProof.Rows
section
variable {X : Cx}
end
end L2
namespace L2
open PySem PySem.Spec PyProof.Rows
section
variable {X : Cx}
def zGw (K : PySem.W.Frag) : R2 := fun x y H Q => ∃ a b xs ys, x = .ref a /\ y = .ref b /\ SqT K H a xs /\ SqT K H b ys /\ xs.length + ys.length <= sizeLine /\ ∀ p H', Same H H' -> SqT K H' p (xs ++ ys) -> Q (.ref p) H'
theorem zzg : OpR X (binaryOp .Add) (zGw X.K) := by
 intro pins s σ H x y v u Q I rx ry h;obtain ⟨a, b, xs, ys, rfl, rfl, ha, hb, hz, q⟩ := h;by_cases hx : xs = []
 ·subst hx;exact zop pins s σ H _ _ v u Q I rx ry ⟨a, b, ys, rfl, rfl, ha, hb, q b H (Same.refl H) hb⟩
 ·refine zoo pins s σ H _ _ v u Q I rx ry ⟨a, b, xs, ys, rfl, rfl, ha, hb, hx, hz, fun hy => ?_, fun hy p hp => q p _ (Same.new hp) (SqT.of zB)⟩;subst hy;exact q a H (Same.refl H) (by rw [Jp]; exact ha)
end
end L2
namespace L2
open PySem PySem.W PyProof.Rows
section
variable {X : Cx}
end
section
variable {prog : Program} {w : World} {A : Around}
end
def zfg (d : Int) : List Int -> Int
 | [] => d
 | n :: ns => ns.foldl (fun a b => if b > a then b else a) n
theorem zgs (ns : List Int) : ∀ k, k < ns.length -> ns.getD (argBest (fun i j => decide (ns.getD i 0 > ns.getD j 0)) k) 0 = zfg 0 (ns.take (k + 1))
 | 0, h => by
  cases ns with
  | nil => simp at h
  | cons n ns => rfl
 | k + 1, h => by
  have ih := zgs ns k (by omega);have e : ns.take (k + 1 + 1) = ns.take (k + 1) ++ [ns.getD (k + 1) 0] := by
   rw [List.take_add_one];congr 1;simp [h]
  have ne : ns.take (k + 1) ≠ [] := by
   intro z;have := congrArg List.length z;rw [Jm, List.length_nil] at this;omega
  rw [e];cases hh : ns.take (k + 1) with
  | nil => exact absurd hh ne
  | cons a as =>
   rw [hh] at ih;show ns.getD (if decide (ns.getD (k + 1) 0 > ns.getD (argBest (fun i j => decide (ns.getD i 0 > ns.getD j 0)) k) 0) = true then k + 1 else argBest (fun i j => decide (ns.getD i 0 > ns.getD j 0)) k) 0 = (as ++ [ns.getD (k + 1) 0]).foldl _ a;rw [List.foldl_append, ih];show _ = (if ns.getD (k + 1) 0 > zfg 0 (a :: as) then ns.getD (k + 1) 0 else zfg 0 (a :: as));by_cases g : ns.getD (k + 1) 0 > zfg 0 (a :: as)
   ·rw [Qb g, if_pos rfl, if_pos g]
   ·rw [Qv g, if_neg g];exact ih
section
variable {X : Cx}
theorem zkw {ns : List Int} {its : List Value} (r : Vals (ns.map V.int) its) {i : Nat} {v : Value} (e : its.toArray[i]? = some v) : ∃ t, v = .int (ns.getD i 0) t := by
 have e' : its[i]? = some v := by simpa using e
 have hl : i < its.length := (Qn.mp e').1;have hb : i < ns.length := by have := r.length; rw [Qj] at this; omega
 obtain ⟨u, e1, t, q⟩ := r.get (i := i) (x := V.int ns[i]) (by simp [hb]);rw [e1] at e';cases e'
 exact ⟨t, by rw [q]; simp [List.getD, hb]⟩
end
end L2
namespace L2
open PySem PySem.Spec PyProof.Rows
section
variable {X : Cx}
end
end L2
namespace L2
open PySem PySem.W PyProof.Rows
section
variable {prog : Program} {w : World} {d : Addr} {es : Array DictEntry} {ep : Nat} {o : Obj}
end
section
variable {X : Cx}
end
end L2
namespace L2
open PySem PySem.Spec PyProof.Rows
section
variable {X : Cx}
theorem zfa (bs : List Bool) : (List.range bs.length).any (fun i => bs.getD i false) = bs.any id := by
 rw [Jd, List.any_eq_true, List.any_eq_true];constructor
 ·rintro ⟨i, hi, h⟩;have hi' := Jl.mp hi;refine ⟨bs[i], List.getElem_mem hi', ?_⟩
  simpa [List.getD, hi'] using h
 ·rintro ⟨x, hx, h⟩;obtain ⟨i, hi, e⟩ := List.mem_iff_getElem.mp hx;refine ⟨i, Jl.mpr hi, ?_⟩;simp [List.getD, hi, e];exact h
theorem zvq (hc : X.calm = true) : vK X (.builtin "any") (fun xs H Q => ∃ (p : Addr) (bs : List Bool), xs = [.ref p] /\ SqL X.K H p (bs.map V.bl) /\ Q (.bl (bs.any id)) H) := by
 intro pins s σ H xs us Q I r h;obtain ⟨p, bs, rfl, hp, q⟩ := h;obtain ⟨u, rfl, ru⟩ := Vals.one r;cases (show u = Value.ref p from ru)
 obtain ⟨its, r1, t1, _⟩ := I.list hp;have hh : X.A.in1.handled = none := I.ok.hd hc;have hlt : p < s.heap.objs.size := by obtain ⟨_, e, _⟩ := t1.isList; exact Qw e
 refine call_any_walk (wpAny_pyIter_list t1.isList ⟨_, _, _, _, _, _, fun i => bs.getD i false, rfl, Walks.list hh _ p (Qd hlt) its.toArray, ⟨⟨_, Qh _ rfl, rfl, rfl⟩, t1.isList.push _⟩, ?_, ?_⟩)
 ·intro i v s' Q' E' e hq;rw [zlk r1 e];exact wpAny_truthy_bool hq
 ·intro h' tk hk;have hl : its.toArray.size = bs.length := by have := r1.length; simp at this ⊢; omega
  rw [hl, zfa];exact ⟨.bl _, H, I.kept (kY hk), rfl, q⟩
end
end L2
namespace L2
open PySem PySem.Spec PyProof.Rows PySem.MeetsSeq
section
variable {X : Cx}
end
end L2
namespace L2
open PySem PySem.Spec PyProof.Rows PySem.MeetsSeq
section
variable {X : Cx}
variable {o e : Expr} {es : List Expr} {to : TE} {t : TA} {name : Str} {apos cpos : Pos} {id : String} {r : V -> List V -> Hp -> VK -> Prop}
end
end L2
namespace HT
open PySem PySem.Spec PyProof.Rows
section
variable {prog : Program} {w : World} {A : Around} {E : Value -> Shared -> Prop} {s : Shared}
end
end HT
namespace L2
open PySem PySem.Spec PyProof.Rows
section
variable {X : Cx}
end
end L2
namespace L2
open PySem PySem.Spec PyProof.Rows
section
open PySem.SeqAt
open PySem.AutoSeq1 (wpAny_loadPart')
open PySem.MeetsSeq PySem.MeetsSeq2 PySem.MeetsSeq3
end
end L2
namespace L2
open PySem PySem.W PyProof.Rows
section
variable {prog : Program} {w : World} {A : Around} {E : Value -> Shared -> Prop} {s : Shared}
end
section
variable {X : Cx}
end
end L2
namespace L2
open PySem PySem.Spec PyProof.Rows
section
variable {env : Env} {C : Addr} {names : List (Str × NameKind)} {x : Str} {d : Addr}
end
section
variable {X : Cx} {scope : Scope} {N' : List Str} {fr : List (Option Nat)} {pins : List (Addr × Obj)} {σ : St} {H : Hp} {s : Shared} {fp : List Addr}
end
section
variable {X : Cx} {scope : Scope} {N' : List Str} {fr : List (Option Nat)} {pins : List (Addr × Obj)} {σ : St} {H : Hp} {s : Shared} {fp : List Addr} {it : Addr} {tn : Nat -> Heap -> Prop} {J : It}
 {elt tg iter : Expr} {ifs : List Expr} {g : TG} {tt : TT} {te : TE} {pos : Pos} {fin : List V -> Hp -> Prop} {W : Nat -> Nat -> List V -> St -> Hp -> Prop} {RR : Value -> Addr -> Result -> Shared -> Prop} {E : Value -> Shared -> Prop}
end
end L2
namespace L2
open PySem PySem.Spec PyProof.Rows PySem.MeetsSeq PySem.AutoSeq1
end L2
namespace L2
open PySem PySem.Spec PyProof.Rows
section
variable {X : Cx}
theorem zmx (hc : X.calm = true) : vK X (.builtin "max") (fun xs H Q => ∃ (p : Addr) (ns : List Int), xs = [.ref p] /\ SqL X.K H p (ns.map V.int) /\ ns ≠ [] /\ Q (.int (zfg 0 ns)) H) := by
 intro pins s σ H xs us Q I r h;obtain ⟨p, ns, rfl, hp, ne, q⟩ := h;obtain ⟨u1, rfl, ru⟩ := Vals.one r;cases (show u1 = Value.ref p from ru)
 obtain ⟨its, rr, t1, _⟩ := I.list hp;have hh : X.A.in1.handled = none := I.ok.hd hc;have hlt : p < s.heap.objs.size := by obtain ⟨_, e, _⟩ := t1.isList; exact Qw e
 have hz : its.toArray.size = ns.length := by have := rr.length; rw [Qj] at this; simp; lia
 have n0 : 0 < ns.length := List.length_pos_iff.mpr ne;refine call_max_walk (wpAny_pyIter_list t1.isList ⟨_, _, _, _, _, _, _, rfl, Walks.list hh _ p (Qd hlt) its.toArray, ⟨⟨_, Qh _ rfl, rfl, rfl⟩, t1.isList.push _⟩, ?_, by lia, CmpOf.ints_gt (fun i => ns.getD i 0) (fun i v e => zkw rr e), ?_⟩)
 ·intro c hc';show c < (s.heap.push _).objs.size;rw [Jg];rcases Qy.mp hc' with rfl | hc'
  ·exact Nat.lt_succ_self _
  ·rw [Q3.mp hc']; exact Nat.lt_succ_of_lt hlt
 ·intro v h' tk hP hk;rw [hz] at hP;obtain ⟨t, e⟩ := zkw rr hP;have b := zgs ns (ns.length - 1) (by lia);rw [show ns.length - 1 + 1 = ns.length by lia, Jz] at b;have e' : v = Value.int (zfg 0 ns) t := by rw [e, <- b]
  exact ⟨.int (zfg 0 ns), H, I.kept (kY hk), ⟨t, e'⟩, q⟩
end
def zGs (K : PySem.W.Frag) : List V -> Hp -> VK -> Prop := fun xs H Q => ∃ p ys, xs = [.ref p] /\ (SqL K H p ys \/ SqT K H p ys) /\ Q (.int ys.length) H
def zGu (K : PySem.W.Frag) : List V -> Hp -> VK -> Prop := fun xs H Q => ∃ x c t u b, xs = [x, c] /\ RelV c u /\ gO K H x t /\ PySem.W.kitOne K t u = some b /\ Q (.bl b) H
def zyo (K : PySem.W.Frag) : List V -> Hp -> VK -> Prop := fun xs H Q => ∃ p ys, xs = [.ref p] /\ ((SqL K H p ys /\ ∀ l, H l = none -> Q (.ref l) (upd H l (.tup ys))) \/ (SqT K H p ys /\ Q (.ref p) H))
theorem wS {A B : TS} {D : gP} {σ : St} {H : Hp} (h : ∀ M : St -> Hp -> Prop, (∀ σ H, B D σ H -> M σ H) -> A { D with nx := M } σ H) : zxu A B D σ H := h _ fun _ _ z => z
section
variable {X : Cx} (K : PySem.W.Frag)
theorem zO (h : X.K = K := by rfl) : IxR X (zIa K) := h ▸ ix_list
theorem zY (h : X.K = K := by rfl) : IxR X (gG K) := h ▸ ix_tup
theorem wX (h : X.K = K := by rfl) : SlR X (zHz K) := h ▸ zxz
theorem xT (h : X.K = K := by rfl) : vK X (.builtin "len") (zGs K) := h ▸ zhc
theorem jC (h : X.K = K := by rfl) : vK X (.builtin "isinstance") (zGu K) := h ▸ zju
theorem x6 (h : X.K = K := by rfl) : vK X (.type "tuple") (zyo K) := h ▸ zfk
theorem zzf (hu : X.A.units + 66 < cLine) (h : X.K = K := by rfl) : OpR X (compareOp .Eq) (zmd K true) := h ▸ zDs hu
theorem zzd (hu : X.A.units + 66 < cLine) (h : X.K = K := by rfl) : OpR X (compareOp .NotEq) (zmd K false) := h ▸ zDr hu
theorem zty (h : X.K = K := by rfl) : OpR X (binaryOp .Add) (zBv K) := h ▸ zzh
theorem wK {tg : Expr} (k : Kd) {l : Expr} {tl : TE} (hl : PE X l tl) (h : X.K = K := by rfl) : PI X tg l (zFo k K tl) := h ▸ zDn k hl
theorem jX (n : Nat) {es : List Expr} {k : Nat} {t : TGs} {pos : Pos} (hc : X.calm = true) (h : PGs X es t)
  (hn : (assignEach es X.env).length = n := by rfl) (hst : (assignEach es X.env).findIdx? (·.1) = none := by rfl) (hK : X.K = K := by rfl) : PG X (.Tuple es k pos) (zws K n t) := hK ▸ zDo hc h hn hst
theorem zts {elts : List Expr} {x1 : Nat} {tpos : Pos} {l : Expr} {ta : TA} {p pos : Pos} (k : Kd) (hg : Gl X "enumerate") (hm : X.mg "enumerate" = none) (ha : PA X [l] ta) (hs : starEach [l] X.env = [(false, eval l X.env)] := by rfl) (h : X.K = K := by rfl) :
  PI X (.Tuple elts x1 tpos) (.Call (.Name "enumerate" p) [l] [] pos) (zCf k K ta) := h ▸ zyw k hg hm ha hs
theorem zhl {elts : List Expr} {x1 : Nat} {tpos : Pos} {l m : Expr} {ta : TA} {p pos : Pos} (k1 k2 : Kd) (hg : Gl X "zip") (hm : X.mg "zip" = none) (ha : PA X [l, m] ta)
  (hs : starEach [l, m] X.env = [(false, eval l X.env), (false, eval m X.env)] := by rfl) (hs2 : starEach [m] X.env = [(false, eval m X.env)] := by rfl) (h : X.K = K := by rfl) :
  PI X (.Tuple elts x1 tpos) (.Call (.Name "zip" p) [l, m] [] pos) (zIe k1 k2 K ta) := h ▸ zDl k1 k2 hg hm ha hs hs2
end
section
variable {X : Cx}
end
section
variable {X : Cx}
end
section
variable {X : Cx} {m : Str} {apos pos : Pos} {o : Expr} {ta : TE}
end
section
variable {X : Cx}
end
section
variable {X : Cx}
end
end L2
namespace L2
open PySem PySem.W PyProof.Rows
section
variable {X : Cx}
def zyp : V -> List V -> Hp -> VK -> Prop := fun x vs H Q => ∃ (z y : Str), x = .str z /\ vs = [.str y] /\ Q (.bl (Txt.startswith z y)) H
theorem zqi : MtR X "str.startswith" zyp := by
 intro pins s σ H x xs v us Q I rx r h;obtain ⟨z, y, rfl, rfl, q⟩ := h;obtain ⟨t, rfl⟩ := rx;obtain ⟨u, rfl, ru⟩ := Vals.one r;obtain ⟨t', rfl⟩ := ru;exact call_gives F.slot_str_startswith (typeIs_str _ _ _) F.entry_str_startswith (F.args_str_startswith_2 _ _) (gives_str_startswith z y t t') ⟨.bl _, H, I, rfl, q⟩
def zIv : V -> Option Int -> Option Int -> Hp -> VK -> Prop := fun x lo hi H Q => ∃ z, x = .str z /\ z.length <= sizeLine /\ Q (.str (Txt.slice z lo hi)) H
theorem zCz : SlR X zIv := by
 intro pins s σ H x v vl vu lo hi sl Q I rx hs pl pu h;obtain ⟨z, rfl, hz, q⟩ := h;obtain ⟨t, rfl⟩ := rx;have key : ∀ (l u : Option (Int × Tok)), s.heap.IsSlice sl l u none -> l.map (·.1) = lo -> u.map (·.1) = hi -> wpAny (model X.prog X.w) X.A (getItem (.str z t) (.ref sl)) (EP X pins σ Q) X.xe s := fun l u hs' e1 e2 => by
  subst e1 e2;exact wpAny_getItem_str_slice (l := l) (u := u) (st := none) hs' rfl (post_val_or_str ⟨Qc (Txt.slice_le z _ _) hz, fun t' k => ⟨.str _, H, I.tok _, ⟨_, rfl⟩, q⟩⟩)
 refine ⟨"str", _, F.slot_str_getitem.lookup, typeIs_str _ _ _, ?_⟩;obtain ⟨o, h1, h2, h3⟩ := hs;cases pl with
 | none => cases pu with
  | none => exact key none none ⟨o, h1, h2, h3⟩ rfl rfl
  | int j uj => exact key none (some (j, uj)) ⟨o, h1, h2, h3⟩ rfl rfl
 | int i ui => cases pu with
  | none => exact key (some (i, ui)) none ⟨o, h1, h2, h3⟩ rfl rfl
  | int j uj => exact key (some (i, ui)) (some (j, uj)) ⟨o, h1, h2, h3⟩ rfl rfl
end
end L2
namespace L2
open PySem PySem.W PyProof.Rows
section
variable {prog : Program} {w : World} {A : Around} {E : Value -> Shared -> Prop} {s : Shared}
end
end L2
namespace L2
open PySem PySem.W PyProof.Rows
section
variable {X : Cx}
end
end L2
namespace L2
open PySem PySem.W PyProof.Rows
section
variable {X : Cx} {pos : Pos}
end
end L2
namespace L2
open PySem PySem.SetTable
def nx (m i : Nat) : Nat := (i * 5 + 1) % (m + 1)
end L2
namespace L2
open PySem PySem.SetTable
def lv (m : Nat) (o : Array (Option Nat)) : List (Nat × Nat) := (List.range (m + 1)).filterMap fun j => (o.getD j none).map (j, ·)
end L2
namespace L2
open PySem PySem.SetTable
section
variable {prog : Program} {w : World} {A : Around} {E : Value -> Shared -> Prop} {s : Shared}
end
end L2
namespace L2
open PySem PySem.SetTable
section
variable {prog : Program} {w : World} {A : Around} {E : Value -> Shared -> Prop} {s : Shared} {a b : Addr} {o : Obj} {es : Array (Int × Value)} {ep : Nat} {t : SetTable} {kx : List Int}
end
end L2
namespace L2
open PySem PySem.SetTable PyProof.Rows
section
variable {prog : Program} {w : World} {G : Value -> List Int -> Prop} {A : Around} {E : Value -> Shared -> Prop} {s : Shared} {a b : Addr} {led : Bool} {kss : List (List Int)} {kx : List Int}
end
end L2
namespace L2
open PySem PySem.Spec PyProof.Rows
section
variable {prog : Program} {w : World} {A : Around} {R : Result -> Shared -> Prop} {I : Addr} {fp wr : List Addr} {G : Array GenState -> Array GenState -> Prop} {n : Nat} {P : Nat -> Value -> Prop} {St : Nat -> Shared -> Prop}
end
section
variable {prog : Program} {w : World} {A : Around} {E : Value -> Shared -> Prop} {s : Shared}
set_option maxHeartbeats 8000000 in
end
end L2
namespace L2
open PySem PySem.W PyProof.Rows
section
variable {prog : Program} {w : World} {A : Around} {E : Value -> Shared -> Prop} {s : Shared} {a : Addr} {kss : List (List Int)} {G : Value -> List Int -> Prop}
end
section
variable {X : Cx}
end
end L2
namespace L2
open PySem PySem.W PyProof.Rows
section
variable {X : Cx}
end
end L2
namespace L2
open PySem PySem.W PyProof.Rows
section
variable {X : Cx}
end
end L2
namespace L2
open PySem PySem.Spec PyProof.Rows PySem.W
def zdc (o : Obj) : Option Value := match o.data with
 | .fields vs => vs[2]?
 | _ => none
def yN {α : Type} : Sem α -> Prop
 | .pure _ => True
 | .unsupported _ => True
 | .finish _ => True
 | .rule _ k => yN (k ())
 | .at _ k => yN (k ())
 | .load _ _ k => ∀ o, yN (k o)
 | .update _ _ f k => (∀ o, (f o).dict = o.dict /\ zdc (f o) = zdc o) /\ yN (k ())
 | .loadIfAlive _ k => ∀ o, yN (k o)
 | .point _ k => yN (k ())
 | .alloc _ k => ∀ a, yN (k a)
 | .fresh k => ∀ a, yN (k a)
 | .ask k => ∀ a, yN (k a)
 | .handled _ k => ∀ a, yN (k a)
 | .stack k => ∀ a, yN (k a)
 | .thread k => ∀ a, yN (k a)
 | _ => False
def DSame (h h' : Heap) : Prop := ∀ (b : Nat) (o : Obj), h.objs[b]? = some o -> ∃ o', h'.objs[b]? = some o' /\ o'.dict = o.dict /\ zdc o' = zdc o
theorem DSame.refl (h : Heap) : DSame h h := fun _ o e => ⟨o, e, rfl, rfl⟩
theorem DSame.trans {h1 h2 h3 : Heap} (x : DSame h1 h2) (y : DSame h2 h3) : DSame h1 h3 := fun b o e => by
 obtain ⟨o1, e1, d1⟩ := x b o e;obtain ⟨o2, e2, d2⟩ := y b o1 e1;exact ⟨o2, e2, d2.1.trans d1.1, d2.2.trans d1.2⟩
theorem DSame.push {h : Heap} {o : Obj} : DSame h (h.push o) := fun b u e => by
 obtain ⟨objs, l⟩ := h;refine ⟨u, ?_, rfl, rfl⟩;show (objs.push o)[b]? = some u;have : b < objs.size := (Array.getElem?_eq_some_iff.mp e).1;rw [Array.getElem?_push, if_neg (Qd this)];exact e
theorem DSame.update {h : Heap} {a : Addr} {f : Obj -> Obj} (hf : ∀ o, (f o).dict = o.dict /\ zdc (f o) = zdc o) : DSame h (h.update a f) := fun b u e => by
 obtain ⟨objs, l⟩ := h;show ∃ o', (objs.modify a f)[b]? = some o' /\ _;have e' : objs[b]? = some u := e;rw [Array.getElem?_modify];by_cases hb : a = b
 ·rw [if_pos hb, e'];exact ⟨f u, rfl, (hf u).1, (hf u).2⟩
 ·rw [if_neg hb, e'];exact ⟨u, rfl, rfl, rfl⟩
theorem zky {h : Heap} {a : Addr} {o : Obj} (e : h.get? a = some o) : h.objs[a]? = some o := by
 unfold Heap.get? at e;split at e
 ·cases e
 ·exact e
theorem DSame.at {h h' : Heap} (x : DSame h h') {a : Addr} {o o' : Obj} (e : h.get? a = some o) (e' : h'.get? a = some o') : o'.dict = o.dict /\ zdc o' = zdc o := by
 obtain ⟨u, e1, d⟩ := x a o (zky e);rw [zky e'] at e1;cases e1
 exact d
theorem zra {α : Type} {M : Model} {Γ : PySem.Ctx} {E E' : Value -> Pos -> Shared -> Prop} : ∀ (t : Sem α) (Q : α -> Pos -> Shared -> Prop) (p : Pos) (s : Shared), yN t -> Sem.wp M Γ t Q E p s -> Sem.wp M Γ t (fun a p' s' => Q a p' s' /\ DSame s.heap s'.heap) E' p s := by
 intro t;have up : ∀ {h1 h2 h3 : Heap}, DSame h1 h2 -> DSame h2 h3 -> DSame h1 h3 := fun a b => a.trans b
 induction t with
 | pure a => intro Q p s _ h; rw [Sem.wp] at h ⊢; exact ⟨h, .refl _⟩
 | raise e => intro Q p s d h; exact d.elim
 | unsupported _ => intro Q p s _ h; rw [Sem.wp] at h; exact h.elim
 | finish _ => intro Q p s _ h; rw [Sem.wp] at h; exact h.elim
 | rule t k ih => intro Q p s d h; rw [Sem.wp] at h ⊢; exact ih () Q p s d h
 | «at» p' k ih => intro Q p s d h; rw [Sem.wp] at h ⊢; exact ih () Q p' s d h
 | load a x k ih => intro Q p s d h; rw [Sem.wp] at h ⊢; obtain ⟨o, e, h⟩ := h; exact ⟨o, e, ih o Q p s (d o) h⟩
 | update a x f k ih =>
  intro Q p s d h;rw [Sem.wp] at h ⊢;have := ih () Q p _ d.2 h.2;refine ⟨h.1, ?_⟩;have z := ih () (fun a p' s' => Q a p' s') p _ d.2 h.2;exact Sem.wp_mono M Γ _ (fun a p1 s1 q => ⟨q.1, (DSame.update d.1).trans q.2⟩) (fun _ _ _ q => q) _ _ z
 | alloc o k ih =>
  intro Q p s d h;rw [Sem.wp] at h ⊢;exact Sem.wp_mono M Γ _ (fun a p1 s1 q => ⟨q.1, DSame.push.trans q.2⟩) (fun _ _ _ q => q) _ _ (ih _ Q p _ (d _) h)
 | loadIfAlive a k ih => intro Q p s d h; rw [Sem.wp] at h ⊢; exact ih _ Q p s (d _) h
 | point l k ih => intro Q p s d h; rw [Sem.wp] at h ⊢; exact ih () Q p s d h
 | register a k ih => intro Q p s d h; exact d.elim
 | fresh k ih => intro Q p s d h; rw [Sem.wp] at h ⊢; exact ih _ Q p _ (d _) h
 | ask k ih => intro Q p s d h; rw [Sem.wp] at h ⊢; exact ih _ Q p s (d _) h
 | choose a n k ih => intro Q p s d h; exact d.elim
 | os a l k ih => intro Q p s d h; exact d.elim
 | call c h g l k ih => intro Q p s d h; exact d.elim
 | handled o k ih => intro Q p s d h; rw [Sem.wp] at h ⊢; exact ih _ Q p s (d _) h
 | newGen c k ih => intro Q p s d h; exact d.elim
 | genState g k ih => intro Q p s d h; exact d.elim
 | resume g r l k ih => intro Q p s d h; exact d.elim
 | yield v g l k ih => intro Q p s d h; exact d.elim
 | stack k ih => intro Q p s d h; rw [Sem.wp] at h ⊢; exact ih _ Q p s (d _) h
 | fork c k ih => intro Q p s d h; exact d.elim
 | thread k ih => intro Q p s d h; rw [Sem.wp] at h ⊢; exact ih _ Q p s (d _) h
 | await a f d l k ih => intro Q p s d h; exact d.elim
theorem zjn {α β : Type} : ∀ (t : Sem α) (f : α -> Sem β), yN t -> (∀ a, yN (f a)) -> yN (t.bind f) := by
 intro t f
 induction t with
 | pure a => intro _ h; exact h a
 | raise e => intro d _; exact d.elim
 | unsupported _ => intro _ _; trivial
 | finish _ => intro _ _; trivial
 | rule t k ih => intro d h; exact ih () d h
 | «at» p' k ih => intro d h; exact ih () d h
 | load a x k ih => intro d h; exact fun o => ih o (d o) h
 | update a x f k ih => intro d h; exact ⟨d.1, ih () d.2 h⟩
 | alloc o k ih => intro d h; exact fun o => ih o (d o) h
 | loadIfAlive a k ih => intro d h; exact fun o => ih o (d o) h
 | point l k ih => intro d h; exact ih () d h
 | fresh k ih => intro d h; exact fun o => ih o (d o) h
 | ask k ih => intro d h; exact fun o => ih o (d o) h
 | handled o k ih => intro d h; exact fun o => ih o (d o) h
 | stack k ih => intro d h; exact fun o => ih o (d o) h
 | thread k ih => intro d h; exact fun o => ih o (d o) h
 | _ => intro d h; exact d.elim
theorem wM {α β : Type} {t : Sem α} {f : α -> Sem β} (h1 : yN t) (h2 : ∀ a, yN (f a)) : yN (t >>= f) := zjn t f h1 h2
theorem wB {α : Type} {a : α} : yN (pure a : Sem α) := trivial
theorem wR {α : Type} {M : Model} {A : Around} {t : Sem α} {Q : α -> Shared -> Prop} {E E' : Value -> Shared -> Prop} {s : Shared} (d : yN t) (h : wpAny M A t Q E s) : wpAny M A t (fun a s' => Q a s' /\ DSame s.heap s'.heap) E' s :=
 fun Γ p g => zra t _ p s d (h Γ p g)
theorem j7 {α : Type} {w : String} : yN (unsupported w : Sem α) := trivial
theorem j3 {a : Addr} : yN (load a) := fun _ => trivial
theorem jI {o : Obj} : yN (alloc o) := fun _ => trivial
theorem qL : yN stack := fun _ => trivial
theorem zpt {i : Nat} {v : Value} (hi : i ≠ 2) (o : Obj) : (Obj.mapFields (fun vs => vs.setIfInBounds i v) o).dict = o.dict /\ zdc (Obj.mapFields (fun vs => vs.setIfInBounds i v) o) = zdc o := by
 unfold Obj.mapFields;split
 ·refine ⟨rfl, ?_⟩;show (Array.setIfInBounds _ i v)[2]? = _;rw [Array.getElem?_setIfInBounds_ne hi];rfl
 ·exact ⟨rfl, rfl⟩
theorem vI {a : Addr} {f : Obj -> Obj} (h : ∀ o, (f o).dict = o.dict /\ zdc (f o) = zdc o) : yN (update a f) := ⟨h, trivial⟩
theorem zjp {v : Value} : yN (fieldsOf v) := by
 unfold fieldsOf;repeat (any_goals first | exact wB | exact j7 | exact j3 | exact dk_loadPart | exact dk_alive | exact jI | exact qL | exact dk_rule | exact dk_point | exact dk_standAt | exact vI (fun _ => ⟨rfl, rfl⟩) | refine wM ?_ (fun _ => ?_) | split)
theorem zer {v : Value} {i : Nat} : yN (field v i) := by
 unfold field;refine wM zjp fun _ => ?_;repeat (any_goals first | exact wB | exact j7 | exact j3 | exact dk_loadPart | exact dk_alive | exact jI | exact qL | exact dk_rule | exact dk_point | exact dk_standAt | exact vI (fun _ => ⟨rfl, rfl⟩) | refine wM ?_ (fun _ => ?_) | split)
theorem zcf {v x : Value} {i : Nat} (hi : i ≠ 2) : yN (setField v i x) := by
 unfold setField updateField;repeat (any_goals first | exact vI (zpt hi) | exact wB | exact j7 | exact j3 | exact dk_loadPart | exact dk_alive | exact jI | exact qL | exact dk_rule | exact dk_point | exact dk_standAt | exact vI (fun _ => ⟨rfl, rfl⟩) | refine wM ?_ (fun _ => ?_) | split)
theorem jN {v : Value} {f : Option Addr} : yN (setFlight v f) := by
 unfold setFlight;refine wM zer fun tb => ?_;split
 ·exact zcf (by decide)
 ·exact wB
theorem zha {t : String} {vs : List Value} : yN (newFields t vs) := by
 unfold newFields newObj;repeat (any_goals first | exact wB | exact j7 | exact j3 | exact dk_loadPart | exact dk_alive | exact jI | exact qL | exact dk_rule | exact dk_point | exact dk_standAt | exact vI (fun _ => ⟨rfl, rfl⟩) | refine wM ?_ (fun _ => ?_) | split)
theorem zrb {env : Env} {l : List Env} : yN (behindIsImport env l) := by
 unfold behindIsImport;repeat (any_goals first | exact wB | exact zer | refine wM ?_ (fun _ => ?_) | split)
theorem zuu : yN underTheClaimsCaller := by
 unfold underTheClaimsCaller;repeat (any_goals first | exact wB | exact j7 | exact j3 | exact dk_loadPart | exact dk_alive | exact jI | exact qL | exact dk_rule | exact dk_point | exact dk_standAt | exact vI (fun _ => ⟨rfl, rfl⟩) | refine wM ?_ (fun _ => ?_) | split)
theorem zjo {env : Env} {b : Bool} {l : List Env} : yN (keptBack env b l) := by
 cases l with
 | nil =>
  unfold keptBack;repeat (any_goals first | exact wB | exact zuu | refine wM ?_ (fun _ => ?_) | split)
 | cons c r => exact wB
theorem zle : ∀ l : List Env, yN (readyFrames l)
 | [] => wB
 | env :: outer => by
  unfold readyFrames;repeat (any_goals first | exact wB | exact j7 | exact j3 | exact zrb | exact zjo | exact zle outer | exact vI (fun _ => ⟨rfl, rfl⟩) | refine wM ?_ (fun _ => ?_) | split)
theorem zdd : ∀ l : List Env, yN (frameObject l)
 | [] => wB
 | env :: outer => wM (zle _) fun _ => wB
theorem zmt {env : Env} : yN (PySem.frameOf env) := by
 unfold PySem.frameOf frameEnvs;repeat (any_goals first | exact wB | exact j7 | exact qL | exact zdd _ | refine wM ?_ (fun _ => ?_) | split)
theorem zuv {f : Addr} {b : Bool} : yN (entryPlaceOf f b) := by
 unfold entryPlaceOf;repeat (any_goals first | exact wB | exact j7 | exact j3 | exact dk_loadPart | exact dk_alive | exact jI | exact qL | exact dk_rule | exact dk_point | exact dk_standAt | exact vI (fun _ => ⟨rfl, rfl⟩) | refine wM ?_ (fun _ => ?_) | split)
theorem hI {e : Value} {env : Env} : yN (noteFrame e env) := by
 unfold noteFrame EntryCells.newEntry;repeat (any_goals first | exact wB | exact j7 | exact zer | exact zcf (by decide) | exact zha | exact zmt | exact zuv | refine wM ?_ (fun _ => ?_) | split)
theorem jV {e : Value} {env : Env} : yN (leaving env e) := wM hI fun _ => jN
end L2
namespace L2
open PySem PySem.Spec PyProof.Rows PySem.W
def zxd (h : Heap) (ea : Addr) (od : Option Addr) : Prop := ∃ o, h.get? ea = some o /\ (∀ dx, od = some dx -> o.dict = some dx) /\ zdc o = some .none
def CXq (P : Program) (w : World) : CXT := fun outer H s E e s' => ∃ (ea C : Addr) (a0 : Value) (B : Heap) (H' : Hp) (od : Option Addr), e = .ref ea /\ s'.os = s.os /\ AllBare s'.gens /\ Un (frs outer) [] H H' s.heap s'.heap /\ HOk P w H' s'.heap /\
 Heap.FlyingW B outer ea (.ref C) a0 s'.heap /\ (∀ b o, s'.heap.get? b = some o -> ((∃ q, s.heap.get? b = some q) \/ ∃ q, H' b = some q) -> b ∉ frs outer -> B.get? b = some o) /\ zxd s'.heap ea od /\ E (.ref C) od H'
theorem CXr.q {P : Program} {w : World} {outer : List Env} {H : Hp} {s : Shared} {E : XK} {e : Value} {s' : Shared} (h : CXr P w outer H s E e s') (hf : ∀ ea, e = .ref ea -> ∀ o, s'.heap.get? ea = some o -> zdc o = some .none) : CXq P w outer H s E e s' := by
 obtain ⟨ea, C, a0, B, H', e1, e2, e3, e4, e5, e6, e7, e8⟩ := h;obtain ⟨o, h1, _⟩ := e6.there;exact ⟨ea, C, a0, B, H', none, e1, e2, e3, e4, e5, e6, e7, ⟨o, h1, (fun _ z => by cases z), hf ea e1 o h1⟩, e8⟩
section
variable {P : Program} {w : World} {K : PySem.W.Frag} {mg : Str -> Option Value} {base : Heap} {N : List Str} {qual : Str} {scope : Scope} {f : Addr} {cd : Value} {A : Around} {outer : List Env} {s0 : Shared} {H0 : Hp} {E : XK}
theorem zwq {CX CX' : CXT} {E' : XK} {pins : List (Addr × Obj)} {σ : St} {H : Hp} {s : Shared} (I : Inv (xU CX P w K mg base N qual scope f cd A outer s0 H0 E) pins σ H s) : Inv (xU CX' P w K mg base N qual scope f cd A outer s0 H0 E') pins σ H s :=
 ⟨⟨I.ok.mod, I.ok.kind, I.ok.glob, I.ok.blt, I.ok.above, I.ok.inj, I.ok.has, I.ok.cab, I.ok.hd, I.ok.frames, I.ok.stk, I.ok.exf, I.ok.bs, I.ok.bsz, I.ok.noex, I.ok.exfs, I.ok.funs, I.ok.frf⟩, I.os, I.bare, I.base, I.loc, I.cell, I.free, I.freeC, I.pin, I.hok, I.len⟩
theorem zgx {pins : List (Addr × Obj)} {σ : St} {H : Hp} {s2 : Shared} {h' : Heap} {e C : Addr} {vs : List Value} {E2 : Value -> Shared -> Prop} (I : Inv (xU (CXq P w) P w K mg base N qual scope f cd A outer s0 H0 E) pins σ H s2)
  (hx : Heap.MadeExcOf s2.heap h' e (.ref C) vs) (q : E (.ref C) none H) :
  wpAny (model P w) (A.deeper (envOfC qual scope s0.heap.objs.size f cd)) (leaving (envOfC qual scope s0.heap.objs.size f cd) (.ref e)) (fun _ s'' => CXq P w outer H0 s0 E (.ref e) s'') E2 { s2 with heap := h' } :=
 wpAny_mono (wR (E' := E2) jV (zjm (E2 := fun _ _ => False) (zwq I) hx q)) (fun _ _ z => z.1.q fun ea ez o h1 => by
  cases ez
  obtain ⟨t, h2, _⟩ := hx.there;exact (z.2.at h2 h1).2.trans rfl) fun _ _ z => z
theorem yO {x : Str} {C : Addr} {bm : List Value} {np cpos pos : Pos} {e : Expr} {ta : TA} (hg : Gl (xU (CXq P w) P w K mg base N qual scope f cd A outer s0 H0 E) x) (hm : mg x = some (.ref C)) (hc : vH K C bm = true)
  (ha : PA (xU (CXq P w) P w K mg base N qual scope f cd A outer s0 H0 E) [e] ta) (hd : (x == ("__debug__" : Str)) = false := by decide)
  (hs : starEach [e] (envOfC qual scope s0.heap.objs.size f cd) = [(false, eval e (envOfC qual scope s0.heap.objs.size f cd))] := by rfl) :
  PS (xU (CXq P w) P w K mg base N qual scope f cd A outer s0 H0 E) (.Raise (some (.Call (.Name x np) [e] [] cpos)) none pos) (zCv C E ta) := by
 intro pins s σ H D I h;have XA := zla I.mod.kin hc;obtain ⟨Na, nm, qn, bs, hd', sn, sub, ab, col, dd, k0, k1, k2, k3, k5, mN, e1, e2, e3, e4⟩ := XA.ex;refine wpAny_Raise_call_subU (mN := mN) (nm := nm) (q := qn) (N := Na) (bs := bs) (bm := bm) (hdct := hd') (sn := sn) (sub := sub) (ab := ab) (col := col) (dd := dd) (k0 := k0) (k1 := k1) (k2 := k2) (k3 := k3) (k5 := k5) F.excBase_ValueError g0 F.excBase_ValueError (e4.hasType zby) (I.ok.hd rfl) (by show (backTo cpos (starEach [e] (envOfC qual scope s0.heap.objs.size f cd))).any (·.1) = false; rw [hs]; rfl) e3 (qW I hg hm ⟨rfl, ?_⟩ hd);have hA := ha cpos pins s σ H _ I h;show wpAny _ _ (evalArgs (.ref C) true (backTo cpos (starEach [e] (envOfC qual scope s0.heap.objs.size f cd))) []) _ _ _;have hA' : wpAny (model P w) (A.deeper (envOfC qual scope s0.heap.objs.size f cd)) (spliced (backTo cpos (starEach [e] (envOfC qual scope s0.heap.objs.size f cd)))) _ _ s := hA;rw [hs] at hA' ⊢;refine Calls.evalArgs_plain (thn hA' fun us s2 ⟨vs, H2, I2, r2, q2⟩ => ?_);refine ⟨rfl, ?_, I2.bk _ _ e1, e2.keeps I2.bk, e4.keeps I2.bk, fun h' ea hx => ?_⟩
 ·show us.length <= sizeLine;rw [<- r2.length];exact Qc q2.1 (by decide)
 ·exact zgx I2 hx q2.2
theorem ztw : jK (CXq P w) (xU (CXq P w) P w K mg base N qual scope f cd A outer s0 H0 E) E := by
 intro pins σ H s e s' I hx;obtain ⟨ea, C, a0, B, H', od, rfl, os, bare, un, hok, fly, kB, di, q⟩ := hx;have z : wpAny (model P w) (A.deeper (envOfC qual scope s0.heap.objs.size f cd)) (leaving (envOfC qual scope s0.heap.objs.size f cd) (.ref ea)) (fun _ s'' => CXr P w outer H0 s0 (fun c _ H => c = .ref C /\ E c od H) (.ref ea) s'') _ s' :=
  zza (E := fun c _ H => c = .ref C /\ E c od H) pins σ H s (.ref ea) s' (zwq I) ⟨ea, C, a0, B, H', rfl, os, bare, un, hok, fly, kB, rfl, q⟩
 refine wpAny_mono (wR (E' := fun _ _ => False) jV z) (fun _ s'' ⟨c, ds⟩ => ?_) fun e' s'' c => c.elim
 ·obtain ⟨ea', C', a0', B', H'', e1, os', bare', un', hok', fly', kB', e2, q'⟩ := c;cases e1
  cases e2
  refine ⟨ea, C, a0', B', H'', od, rfl, os', bare', un', hok', fly', kB', ?_, q'⟩;obtain ⟨o, h1, h2, h4⟩ := di;obtain ⟨o', h3, _⟩ := fly'.there;exact ⟨o', h3, fun dx e => (ds.at h1 h3).1.trans (h2 dx e), (ds.at h1 h3).2.trans h4⟩
end
structure y9 (P : Program) (w : World) (K : PySem.W.Frag) (mg : Str -> Option Value) (base : Heap) (k : Nat) (x : Str) (ps : List Str) (sp : Sp) : Prop where
 ex : ∃ f fd, v9 P w K mg base (CXq P w) k f fd ps sp /\ Binds K fd ps [] /\ mg x = some (.ref f) /\ PySem.W.keepIn K (.ref f) = true
theorem ziu {P : Program} {w : World} {X : Cx} : jK (CXq P w) X E0 := fun _ _ _ _ _ _ _ ⟨_, _, _, _, _, _, _, _, _, _, _, _, _, _, z⟩ => z.elim
theorem Src.defQ {P : Program} {w : World} {K : PySem.W.Frag} {mg : Str -> Option Value} {base : Heap} {k : Nat} {x : Str} {st : Stmt} {N ps : List Str} {sp : Sp} (S : Src K mg x st ps) (sc : zR N ps (zH st)) (len : ∀ vs H Q E, sp vs H Q E -> vs.length = ps.length)
  (hbody : ∀ (f : Addr) (cdv : Value) (A : Around) (outer : List Env) (s : Shared) (H : Hp) (vs : List V) (Q : VK) (E : XK), Room k (A.deeper (envOfC x (zH st) s.heap.objs.size f cdv)) -> sp vs H Q E ->
   ∃ t, PSs (xU (CXq P w) P w K mg base N x (zH st) f cdv A outer s H E) (xJ st) t /\ t { nx := fun _ H' => Q .non H', rt := Q } (qM N vs) H) : y9 P w K mg base (k + 1) x ps sp := by
 obtain ⟨f, fd, F, b, m⟩ := S.ex;obtain ⟨oc, od, kV, doc, pm, an, cdv, ct, osl, e, lk, hcd⟩ := F.ex;subst e;exact ⟨f, _, zxj lk hcd sc len (hbody f cdv), b, m, F.kp⟩
theorem yB {P : Program} {w : World} {K : PySem.W.Frag} {mg : Str -> Option Value} {base : Heap} {N : List Str} {qual : Str} {scope : Scope} {f : Addr} {cd : Value} {A : Around} {outer : List Env} {s0 : Shared} {H0 : Hp} {E : XK} {k : Nat} {x : Str} {ps : List Str} {sp : Sp} {e : Expr} {es : List Expr} {t : TA} {p pos : Pos}
  (D : y9 P w K mg base k x ps sp) (hr : Room k (A.deeper (envOfC qual scope s0.heap.objs.size f cd))) (hg : Gl (xU (CXq P w) P w K mg base N qual scope f cd A outer s0 H0 E) x) (ha : PA (xU (CXq P w) P w K mg base N qual scope f cd A outer s0 H0 E) (e :: es) t)
  (hdb : (x == ("__debug__" : Str)) = false := by decide) (he : starEach (e :: es) (envOfC qual scope s0.heap.objs.size f cd) = (false, eval e (envOfC qual scope s0.heap.objs.size f cd)) :: starEach es (envOfC qual scope s0.heap.objs.size f cd) := by rfl)
  (hpl : (backTo pos (starEach es (envOfC qual scope s0.heap.objs.size f cd))).any (·.1) = false := by rfl) :
  PE (xU (CXq P w) P w K mg base N qual scope f cd A outer s0 H0 E) (.Call (.Name x p) (e :: es) [] pos) (zic sp [] E t) := by
 obtain ⟨g, fd, F, b, m, kp⟩ := D.ex;exact zhm F hr hg m kp b .nil ztw ha hdb he hpl
def zpm (a C : Addr) (od : Option Addr) (h : Heap) : Prop := ∃ (o : Obj) (vs : Array Value), h.get? a = some o /\ o.cls = .ref C /\ o.data = .fields vs /\ (∀ dx, od = some dx -> o.dict = some dx) /\ vs[2]? = some .none
def zwu (a C : Addr) (od : Option Addr) : HO := .ext (zpm a C od)
theorem zAa {P : Program} {w : World} {H : Hp} {h : Heap} {a C : Addr} {od : Option Addr} (x : zpm a C od h) : ObjOk P w H h a (zwu a C od) := by
 obtain ⟨o, vs, h1, h2, h3, h4⟩ := id x;exact ⟨x, ⟨o, h1⟩, fun a1 a2 ⟨o', v', e1, e2, e3, e4⟩ k => ⟨o', v', k o' e1, e2, e3, e4⟩⟩
section
variable {X : Cx}
def zba (K : PySem.W.Frag) : List V -> Hp -> VK -> Prop := fun xs H Q => ∃ (a C : Addr) (od : Option Addr) (c : V) (u : Value) (b : Bool), xs = [.ref a, c] /\ RelV c u /\ H a = some (zwu a C od) /\ zne K C /\ kitOne K (.ref C) u = some b /\ Q (.bl b) H
theorem xM : vK X (.builtin "isinstance") (zba X.K) := by
 intro pins s σ H xs us Q I r h;obtain ⟨a, C, od, c, u, b, rfl, rc, ha, Z, e, q⟩ := h;obtain ⟨v1, v2, rfl, r1, r2⟩ := Vals.two r;cases r1
 obtain ⟨⟨o, _, hx1, hx2, _⟩, _⟩ := I.hok a _ ha;have e2 : v2 = u := by
  cases c <;> first
   | exact (show v2 = _ from r2).trans (show u = _ from rc).symm
   | skip
  all_goals (exfalso; obtain ⟨_, rfl⟩ := rc; unfold kitOne kitCls at e; split at e <;> simp_all)
 subst e2;exact kia_one (zuj Z) I.kIn ⟨o, hx1, hx2⟩ e (by intro z; cases z) fun tk => ⟨.bl b, H, I.tok _, rfl, q⟩
end
section
variable {M : Model} {A : Around} {E : Value -> Shared -> Prop} {s : Shared}
theorem zgd {base : Heap} {env : Env} {outer : List Env} {L e : Addr} {cls a0 : Value} {Q : Unit -> Shared -> Prop} (hfr : A.frames = some (env :: outer)) (hf : env.frame = some L) (hfl : Heap.FlyingW base (env :: outer) e cls a0 s.heap)
  (hQ : ∀ h', Heap.HeldW base (env :: outer) e cls a0 L h' -> s.heap.UpToSlots h' -> DSame s.heap h' -> Q () { s with heap := h' }) : wpAny M A (noteFrame (.ref e) env) Q E s :=
 wpAny_mono (wR (E := fun _ _ => False) (E' := E) hI (wpAny_looks_onW (Q := fun _ s' => ∃ h', s' = { s with heap := h' } /\ Heap.HeldW base (env :: outer) e cls a0 L h' /\ s.heap.UpToSlots h') hfr hf hfl fun h' a b => ⟨h', rfl, a, b⟩))
  (fun _ s' ⟨⟨h', e, a, b⟩, d⟩ => by subst e; exact hQ h' a b d) fun _ _ x => x
theorem zDx {base : Heap} {l : List Env} {e L : Addr} {cls a0 : Value} {Q : Unit -> Shared -> Prop} (hh : Heap.HeldW base l e cls a0 L s.heap)
  (hQ : ∀ h', Heap.FlyingW base l e cls a0 h' -> s.heap.UpToSlots h' -> DSame s.heap h' -> Q () { s with heap := h' }) : wpAny M A (setFlight (.ref e) none) Q E s :=
 wpAny_mono (wR (E := fun _ _ => False) (E' := E) jN (wpAny_landsW (Q := fun _ s' => ∃ h', s' = { s with heap := h' } /\ Heap.FlyingW base l e cls a0 h' /\ s.heap.UpToSlots h') hh fun h' a b => ⟨h', rfl, a, b⟩))
  (fun _ s' ⟨⟨h', e, a, b⟩, d⟩ => by subst e; exact hQ h' a b d) fun _ _ x => x
theorem zgy {base : Heap} {l : List Env} {e : Addr} {cls a0 : Value} {Q : Unit -> Shared -> Prop} (hh : Heap.FlyingW base l e cls a0 s.heap)
  (hQ : ∀ h', Heap.FlyingW base l e cls a0 h' -> s.heap.UpToSlots h' -> DSame s.heap h' -> Q () { s with heap := h' }) : wpAny M A (setFlight (.ref e) none) Q E s :=
 wpAny_mono (wR (E := fun _ _ => False) (E' := E) jN (lands_againW (Q := fun _ s' => ∃ h', s' = { s with heap := h' } /\ Heap.FlyingW base l e cls a0 h' /\ s.heap.UpToSlots h') hh fun h' a b => ⟨h', rfl, a, b⟩))
  (fun _ s' ⟨⟨h', e, a, b⟩, d⟩ => by subst e; exact hQ h' a b d) fun _ _ x => x
end
def XPQ (X : Cx) (pins : List (Addr × Obj)) (DX : St -> XK) (e : Value) (s' : Shared) : Prop := ∃ σ H s, Inv X pins σ H s /\ CXq X.prog X.w X.stack H s (DX σ) e s'
def PXQ (X : Cx) (st : Stmt) (t : TSX) : Prop := ∀ (pins : List (Addr × Obj)) (s : Shared) (σ : St) (H : Hp) (D : gP) (DX : St -> XK), Inv X pins σ H s -> t D DX σ H -> wpAny (model X.prog X.w) X.A (exec st X.env) (SP X pins D) (XPQ X pins DX) s
def zIj (X : Cx) (st : List Stmt) (t : TSX) : Prop := ∀ (pins : List (Addr × Obj)) (s : Shared) (σ : St) (H : Hp) (D : gP) (DX : St -> XK), Inv X pins σ H s -> t D DX σ H -> wpAny (model X.prog X.w) X.A (execs st X.env) (SP X pins D) (XPQ X pins DX) s
section
variable {X : Cx}
theorem zto {st : Stmt} {t : TSX} (h : PXQ X st t) : zIj X [st] t := by
 intro pins s σ H D DX I ht;refine wpAny_execs_cons (thn (h pins s σ H D DX I ht) fun f s1 q => ?_);cases f with
 | next => exact wpAny_execs_nil q
 | ret v => exact q
 | brk => exact q
 | cont => exact q
def zGa (K : Frag) (tbody : TSX) (i : Nat) (W : Addr) (tb : TS) : TS := fun D σ H => tbody D (fun σ1 c od H2 => ∃ C, c = .ref C /\ subIn K (.ref C) (.ref W) = some true /\
 ∀ ea, H2 ea = none -> tb { D with nx := fun σ' H' => D.nx (σ'.set i none) H', bk := fun _ _ => False, ct := fun _ _ => False } (σ1.set i (some (.ref ea))) (upd H2 ea (zwu ea C od))) σ H
theorem zys {i : Nat} {cx n : Str} {tbody : TSX} {body : List Stmt} {tb : TS} {b0 : Stmt} {suite : List Stmt} {W : Addr} {bmW : List Value} {np hpos tpos : Pos} (hgc : Gl X cx) (hmc : X.mg cx = some (.ref W)) (hW : vH X.K W bmW = true) (hN : X.N.Nodup) (hi : X.N[i]? = some n) (hlo : X.env.scope.names.lookup n = some .local)
  (hbody : zIj X body tbody) (hb : ∀ v, PSs (X.marked v) (b0 :: suite) tb) (hst : X.stack = X.env :: X.outer) (hfr : X.env.frame = some X.env.locals) (hdc : (cx == ("__debug__" : Str)) = false := by decide) :
  PS X (.Try body [.ExceptHandler (some (.Name cx np)) (some n) (b0 :: suite) hpos] [] [] tpos) (zGa X.K tbody i W tb) := by
 intro pins s σ H D0 I0 h;refine wpAny_Try_except (wpAny_mono (hbody pins s σ H D0 _ I0 h) (fun fl s1 q => ?_) fun ev s' hx => ?_)
 ·cases fl with
  | next => exact wpAny_execs_nil q
  | ret v => exact q
  | brk => exact q
  | cont => exact q
 ·obtain ⟨σ1, H1, s1, I1, ea, C, a0, B, H', od, rfl, os, bare, un, hok, fly, kB, di, C', eC, sb, tq⟩ := hx;cases eC
  have inv : ∀ h', B.StaysIn h' -> s'.heap.UpToSlots h' -> Inv X pins σ1 H' { s' with heap := h' } := fun h' a b => zmw I1 os bare un hok fly.2.2.1 kB a b;obtain ⟨oe, ve, _, _, _, heo, ⟨_, _⟩, hdo, _⟩ := fly.2.2.2;have nfr : ea ∉ frs X.stack := fun hm => vY fly.2.2.1 hm heo ve hdo;have fresh1 : s1.heap.get? ea = none := by
   cases z : s1.heap.get? ea with
   | none => rfl
   | some q1 =>
    have := kB ea oe heo (.inl ⟨q1, z⟩) nfr;rw [fly.2.1] at this;cases this
  have freshH : H' ea = none := by
   cases z : H' ea with
   | none => rfl
   | some q1 =>
    have := kB ea oe heo (.inr ⟨q1, z⟩) nfr;rw [fly.2.1] at this;cases this
  have hA : X.A.frames = some (X.env :: X.outer) := by rw [<- hst]; exact I1.ok.frames
  have fly' := fly;rw [hst] at fly';refine zgd hA hfr fly' fun h4 held4 up4 ds4 => ?_;refine zDx held4 fun h5 fly5 up5 ds5 => ?_;have up45 := up4.trans up5;have J5 := inv h5 fly5.1 up45;refine wpAny_handleBy_cons (codeAny_handlers_test ?_) (by intro z; cases z);refine qW (X := X.marked (.ref ea)) (Inv.mark J5) hgc hmc ?_ hdc;obtain ⟨oe5, he5, hc5⟩ := fly5.there;refine zlo J5.kIn hW sb he5 hc5 ?_;refine codeAny_handlers_suite_as ?_;refine zgy fly5 fun h6 fly6 up6 ds6 => ?_;have J6 := inv h6 fly6.1 (up45.trans up6);obtain ⟨oe6, he6, hc6⟩ := fly6.there;obtain ⟨oe6', ve6, _, _, _, he6', _, hd6, _⟩ := fly6.2.2.2;rw [he6] at he6';cases he6'
  have gone : ∀ b o, s1.heap.get? b = some o -> b ≠ ea := fun b o z q => by rw [q, fresh1] at z; cases z
  have J7 : Inv X pins σ1 (upd H' ea (zwu ea C od)) { s' with heap := h6 } := by
   refine J6.track freshH (zAa ⟨oe6, ve6, he6, hc6, hd6, (by obtain ⟨o, h1, h2, h4⟩ := di; exact fun dx e => (((ds4.trans ds5).trans ds6).at h1 he6).1.trans (h2 dx e)), (by obtain ⟨o, h1, h2, h4⟩ := di; have z := (((ds4.trans ds5).trans ds6).at h1 he6).2.trans h4; unfold zdc at z; rw [hd6] at z; exact z)⟩) ?_ ?_ ?_ ?_
   ·obtain ⟨_, ⟨o, _, _, z, _⟩, _⟩ := I1.loc;exact Ne.symm (gone _ o z)
   ·intro y c z;obtain ⟨_, o, z2, _⟩ := I1.cell y c z;exact gone _ o z2
   ·intro p0 hp0;exact gone _ _ (I1.pin p0 hp0).1
   ·intro b u z hx;obtain ⟨o', z2⟩ := I1.base.there b u z hx;exact gone _ o' z2
  refine zei J7 hN hi (.inl hlo) (show RelV (.ref ea) (.ref ea) from rfl) (fun s8 J8 => ?_) (.inr hlo);refine wpAny_mono (hb (.ref ea) pins s8 _ _ _ (Inv.mark J8) (tq ea freshH)) (fun fl s9 q9 => ?_) fun _ _ z => z.elim;cases fl with
  | next =>
   obtain ⟨σ9, H9, J9, q⟩ := q9;exact zfv (X := X) (Inv.unmark J9 I1.ok.hd) hN hi hlo fun s10 J10 => ⟨_, H9, J10, q⟩
  | ret u =>
   obtain ⟨v, σ9, H9, J9, r9, q⟩ := q9;exact zfv (X := X) (Inv.unmark J9 I1.ok.hd) hN hi hlo fun s10 J10 => ⟨v, _, H9, J10, r9, q⟩
  | brk =>
   obtain ⟨_, _, _, q⟩ := q9;exact False.elim q
  | cont =>
   obtain ⟨_, _, _, q⟩ := q9;exact False.elim q
end
end L2
namespace L2
open PySem PySem.Spec PyProof.Rows PySem.W
section
variable {K : Frag} {prog : Program} {w : World} {A : Around} {E : Value -> Shared -> Prop} {h : Heap} {g : Array GenState} {d : Drawn} {t : Nat} {os : OsState} {a C dx : Addr} {vs : Array Value} {sl : Array (Option Value)} {f : Str} {v : Value} {mA : Str -> Option Value} {cc : Value} {cdd : Option Addr} {cd : ClassData} {csl : Array (Option Value)}
end
section
variable {X : Cx} {e : Expr} {f : Str} {pos : Pos} {ta : TE}
end
end L2
namespace L2
open PySem PySem.Spec PyProof.Rows PySem.W
def jU (K : Frag) (C : Addr) (bm : List Value) : Bool := match K.lookup C with
 | some ⟨.type "type", _, .cls cd, sl⟩ => (match cd.mro, sl.toList with
  | .ref C' :: bm', [_, _, _, _, some (.builtin n), _] => C' == C && n == "ValueError.__new__" && !cd.hasDel && tailIn K bmVE bm' && bm' == bm
  | _, _ => false)
 | _ => false
theorem kN {K : Frag} {h : Heap} {C : Addr} {bm : List Value} (X : K.In h) (z : jU K C bm = true) : ∃ (N : Addr) (nm qn : Str) (bs : List Value) (hd : Bool) (sn : List Str) (sub : List Value) (ab : Bool) (col : Option Bool) (dd : Option Addr) (k0 k1 k2 k3 k5 : Option Value),
  h.get? C = some (excClassObj nm qn C N bs bm hd sn sub ab col dd k0 k1 k2 k3 k5 "ValueError.__new__") /\ OwnTail h bmVE bm := by
 unfold jU at z;split at z
 next dd cd sl lk =>
  split at z
  next C2 bm2 k0 k1 k2 k3 n k5 hm hs =>
   simp only [Qm, beq_iff_eq, Bool.not_eq_true'] at z;obtain ⟨⟨⟨⟨y1, y2⟩, y3⟩, y4⟩, y5⟩ := z;subst y1 y2 y5;cases cd with
   | mk nm bs mro ns qn hd sn sub ab col del =>
    have e1 : mro = .ref C2 :: bm2 := hm;have e2 : del = false := y3;subst e1 e2;have e3 : sl = #[k0, k1, k2, k3, some (.builtin "ValueError.__new__"), k5] := by
     cases sl with
     | mk l => exact congrArg Array.mk hs
    subst e3;exact ⟨ns, nm, qn, bs, hd, sn, sub, ab, col, dd, k0, k1, k2, k3, k5, X _ _ lk, PySem.W.tail_of_in X y4⟩
  next => cases z
 next => cases z
section
variable {K : Frag} {prog : Program} {w : World} {A : Around} {E : Value -> Shared -> Prop} {h : Heap} {g : Array GenState} {d : Drawn} {t : Nat} {os : OsState} {C fI : Addr} {oI : Obj} {bm : List Value}
theorem zgu {rest : List Value} {Q : Fin -> Shared -> Prop} (X : K.In h) (hB : jU K C bm = true) (hi : findIn K (.ref C) "__init__" = some (some (.ref fI))) (hfI : K.lookup fI = some oI) (hfc : oI.cls = .type "function")
  (hq : ∀ h' e, Heap.MadeExcOf h h' e (.ref C) rest -> wpAny (model prog w) A (call (.ref fI) (.ref e :: rest)) (fun r s' => r = .none /\ Q (.done (.ret (.ref e))) s') E ⟨h', g, d, t, os⟩) (hrest : rest.length <= sizeLine) :
  wpAny (model prog w) A (Builtin.«type.__call__» ⟨.ref C :: rest, []⟩) Q E ⟨h, g, d, t, os⟩ := by
 obtain ⟨N, nm, qn, bs, hd, sn, sub, ab, col, dd, k0, k1, k2, k3, k5, hC, T⟩ := kN X hB;have Fn := F.excBase_ValueError;repeat (first | with_reducible refine wpAny_loadPart_at hC ?_ | with_reducible refine wpAny_madeBy_exc hC ?_ | wp_step)
 refine codeAny_call_builtin_code (Code.quiet_builtin _ Fn.quiet) (wpAny_check_new_subU Fn g0 T hC ?_);refine codeAny_exc_new_subU Fn g0 Fn T hC ?_ hrest;show wpAny _ _ _ _ _ _;have hget : ((h.push { cls := .type "tuple", data := .seq rest.toArray }).push
   { cls := .ref C, data := .fields #[.ref h.objs.size, .none, .none, .none, .bool false, .none] }).get? (h.objs.size + 1) = some
   { cls := .ref C, data := .fields #[.ref h.objs.size, .none, .none, .none, .bool false, .none] } := by heap_get
 have up : ∀ b o, h.get? b = some o -> ((h.push { cls := .type "tuple", data := .seq rest.toArray }).push { cls := .ref C, data := .fields #[.ref h.objs.size, .none, .none, .none, .bool false, .none] }).get? b = some o := fun b o e => Qz _ (Qz _ e);have hC1 := up _ _ hC;have l1 : Looks (model prog w) ((h.push { cls := .type "tuple", data := .seq rest.toArray }).push { cls := .ref C, data := .fields #[.ref h.objs.size, .none, .none, .none, .bool false, .none] }) (typeLookup (.ref C) "__init__") _ := looks_findIn (fun a o e => up _ _ (X a o e)) hi;have hcC : (Value.ref C :: bm).contains (.ref C) = true := by simp
 have hfI1 := up _ _ (X _ _ hfI);unfold isInstance;repeat (first | with_reducible refine wpAny_loadPart_at hget ?_ | (with_reducible refine wpAny_isSubtype_exc hC1 ?_; rw [hcC]) | wp_step)
 show wpAny _ _ (typeLookup (.ref C) _) _ _ _;refine Looks.at l1 ?_;refine wpAny_holding (Qq ?_);unfold bindSpecial;refine Qq (wpAny_typeOf (T := "function") ⟨_, hfI1, hfc⟩ ?_);rw [if_pos (by decide)];refine Qr (Qq (wpAny_mono (hq _ (h.objs.size + 1) ⟨up, Heap.get?_none_of_le (Nat.le_succ _), h.objs.size, hget, Heap.get?_none_of_le (Qx _), ?_⟩) (fun r s' hr => ?_) fun _ _ x => x))
 ·exact Qz _ (Heap.get?_push_at rfl rfl)
 ·obtain ⟨rfl, hQ⟩ := hr
  wp_walk
  exact hQ
theorem zxn {rest : List Value} {Q : Value -> Shared -> Prop} (X : K.In h) (hB : jU K C bm = true) (hi : findIn K (.ref C) "__init__" = some (some (.ref fI))) (hfI : K.lookup fI = some oI) (hfc : oI.cls = .type "function")
  (hq : ∀ h' e, Heap.MadeExcOf h h' e (.ref C) rest -> wpAny (model prog w) (A.under (.builtin "type.__call__" ⟨.ref C :: rest, []⟩)) (call (.ref fI) (.ref e :: rest)) (fun r s' => r = .none /\ Q (.ref e) s') E ⟨h', g, d, t, os⟩) (hrest : rest.length <= sizeLine) :
  wpAny (model prog w) A (call (.ref C) rest) Q E ⟨h, g, d, t, os⟩ := by
 obtain ⟨N, nm, qn, bs, hd, sn, sub, ab, col, dd, k0, k1, k2, k3, k5, hC, T⟩ := kN X hB;have f1 := tc_lookup;have f2 := tc_bind (.ref C);have hT : (⟨h, g, d, t, os⟩ : Shared).TypeIs (.ref C) "type" := ⟨_, hC, rfl⟩;refine wpAny_call (codeAny_of_tree ?_);show wpAny _ _ (callAny (.ref C) _) _ _ _;repeat (any_goals (first | assumption | with_reducible refine wpAny_loadPart_at hC ?_ | wp_step))
 refine ⟨rfl, ?_⟩;refine codeAny_call_builtin_at (Code.quiet_builtin _ (by decide +kernel)) entry_typeCall (wpAny_check_type_call_sub hC (zgu X hB hi hfI hfc (fun h' e hm => ?_) hrest));exact hq h' e hm
end
end L2
namespace L2
open PySem PySem.Spec PyProof.Rows PySem.W PySem.Builtin PySem.Builtin.ObjectAttr
def zdu (K : Frag) (C : Addr) : Bool := (clsIn K C).any fun cd => cd.hasDict && match cd.mro with
 | .ref _ :: .ref _ :: r => r == bmVE
 | _ => false
section
variable {K : Frag} {prog : Program} {w : World} {A : Around} {E : Value -> Shared -> Prop} {s : Shared} {a C : Addr} {vs : Array Value} {f : Str} {v : Value}
theorem zCq {Q : Unit -> Shared -> Prop} (X : K.In s.heap) (hs : findIn K (.ref C) "__setattr__" = some (some (.builtin "object.__setattr__"))) (hm : zdu K C = true) (hf : findIn K (.ref C) f = some none)
  (hx : s.heap.get? a = some ⟨.ref C, none, .fields vs, #[]⟩)
  (hq : ∀ h' tk, h'.get? a = some ⟨.ref C, some s.heap.objs.size, .fields vs, #[]⟩ -> h'.Ns1 s.heap.objs.size (fun y => if y = f then some v else none) -> (∀ b o, b ≠ a -> s.heap.get? b = some o -> h'.get? b = some o) -> Q () { s with heap := h', toks := tk }) :
  wpAny (model prog w) A (setAttr (.ref a) f v) Q E s := by
 have SF := PySem.F.store_object;have I : InstAt s.heap a ⟨.ref C, none, .fields vs, #[]⟩ C none := ⟨hx, rfl, rfl, True.intro⟩;obtain ⟨cd, hc, ho⟩ := any_some hm;rw [Qm] at ho;obtain ⟨hhd, ho⟩ := ho;obtain ⟨c1, c2, em⟩ : ∃ c1 c2, cd.mro = .ref c1 :: .ref c2 :: bmVE := by
  split at ho
  ·rename_i c1 c2 r e
   exact ⟨c1, c2, by rw [e, beq_iff_eq.mp ho]⟩
  ·cases ho
 refine set_plain X I hs ?_;have I' : InstAt ({ s with toks := s.toks + 1 } : Shared).heap a ⟨.ref C, none, .fields vs, #[]⟩ C none := I;have sub : Looks (model prog w) s.heap (isInstance (.ref a) (.type "object")) true := I.type.andThen (looks_mroIn X (by unfold mroIn; rw [hc, Option.bind_some, em]; rfl));refine codeAny_call_builtin SF.slot.plain SF.entry (@check_slot (model prog w) _ _ { s with toks := s.toks + 1 } "object.__setattr__" "object" "__setattr__" (.ref a) [.str f s.toks, v] [] _ SF.kind SF.split sub (SF.args (.ref a) (.str f s.toks) v) ?_);have hmr : Looks (model prog w) s.heap (mroOf (.ref C)) cd.mro := (looks_clsIn X hc).andThen .now;rw [osa_eq, refuse_eq];refine Qq (Qq (I.type.here (s := { s with toks := s.toks + 1 }) (Qq (hmr.here (s := { s with toks := s.toks + 1 }) ?_))));rw [em, refuseLoop_ref, refuseLoop_ref, PySem.F.store_ValueError.passes];refine Qr (Qq (I.type.here (s := { s with toks := s.toks + 1 }) (Qq ((looks_findIn X hf).here (s := { s with toks := s.toks + 1 }) (Qq (Qr ?_))))));refine Qq (Qr (Qq (Qq (wpAny_loadPart hx (Qq ((looks_clsIn X hc).here (s := { s with toks := s.toks + 1 }) ?_))))));rw [hhd];have hx1 : (s.heap.push { cls := .type "dict", data := .dict #[] }).get? a = some ⟨.ref C, none, .fields vs, #[]⟩ := Qz _ hx;have hxs : a ≠ s.heap.objs.size := Qd (Qw hx);refine Qq (wpAny_alloc' ?_);refine Qq (wpAny_update' hx1 ?_);refine Qr ?_;have hgd : ((s.heap.push { cls := .type "dict", data := .dict #[] }).update a fun o => { cls := o.cls, dict := some s.heap.objs.size, data := o.data, slots := o.slots }).get? s.heap.objs.size = some { cls := .type "dict", data := .dict #[] } :=
  (Heap.get?_update_ne _ _ _ _ hxs.symm).trans (Heap.get?_push_at rfl rfl)
 have hnd : ((s.heap.push { cls := .type "dict", data := .dict #[] }).update a fun o => { cls := o.cls, dict := some s.heap.objs.size, data := o.data, slots := o.slots }).Ns s.heap.objs.size (fun _ => none) :=
  ⟨_, #[], _, hgd, rfl, fun e he => absurd he (by simp), fun _ => rfl⟩
 show wpAny _ _ (storeInDict s.heap.objs.size (.str f s.toks) f v) _ _ _;unfold storeInDict newKeyGuard;refine Qq (Qr (Qq (wpAny_nsSet1 (Heap.Ns1.of_empty hnd) fun h' hn' hs' => ?_)));obtain ⟨oD, esD, epD, hoD, hdD, hcD⟩ := hn'.count (Within.cons f v Within.nil);refine Qq (wpAny_lookBehind hoD (by rw [hdD]; exact pastItsLine_dict (Qc hcD (by rw [Q1, List.length_nil, sizeLine_eq]; lia))) ?_)
 wp_walk
 refine hq h' _ ?_ hn' fun b o hb e => ?_
 ·exact (hs'.2 a hxs).trans (Wz _ hx1 rfl)
 ·exact (hs'.2 b (Qd (Qw e))).trans ((Heap.get?_update_ne _ _ _ _ hb).trans (Qz _ e))
end
end L2
namespace L2
open PySem PySem.Spec PyProof.Rows PySem.W
abbrev zsn (t : Addr) : Array Value := #[.ref t, .none, .none, .none, .bool false, .none]
def zCo (a C : Addr) (od : Option Addr) (h : Heap) : Prop := ∃ t, h.get? a = some ⟨.ref C, od, .fields (zsn t), #[]⟩
def gN (a C : Addr) (od : Option Addr) : HO := .ext (zCo a C od)
theorem zhu {P : Program} {w : World} {H : Hp} {h : Heap} {a C : Addr} {od : Option Addr} (x : zCo a C od h) : ObjOk P w H h a (gN a C od) := by
 obtain ⟨t, h1⟩ := id x;exact ⟨x, ⟨_, h1⟩, fun a1 a2 ⟨t', e1⟩ k => ⟨t', k _ e1⟩⟩
theorem zea {X : Cx} {pins : List (Addr × Obj)} {σ : St} {H : Hp} {s : Shared} {a C : Addr} {od : Option Addr} (I : Inv X pins σ H s) (e : H a = some (gN a C od)) : zCo a C od s.heap := (I.hok a _ e).1
section
variable {K : Frag} {prog : Program} {w : World} {A : Around} {E : Value -> Shared -> Prop} {h : Heap} {g : Array GenState} {d : Drawn} {t : Nat} {os : OsState} {e C : Addr} {bm : List Value}
theorem zxo {t0 : Addr} {rest : List Value} {Q : Value -> Shared -> Prop} (X : K.In h) (hB : jU K C bm = true) (hx : h.get? e = some ⟨.ref C, none, .fields (zsn t0), #[]⟩)
  (hq : ∀ h', zCo e C none h' -> (∀ b o, b ≠ e -> h.get? b = some o -> h'.get? b = some o) -> Q .none ⟨h', g, d, t, os⟩) (hz : rest.length <= 100) :
  wpAny (model prog w) A (call (.builtin "ValueError.__init__") (.ref e :: rest)) Q E ⟨h, g, d, t, os⟩ := by
 obtain ⟨N, nm, qn, bs, hd, sn, sub, ab, col, dd, k0, k1, k2, k3, k5, hC, T⟩ := kN X hB;have Fn := F.excBase_ValueError;have hrest : rest.length <= sizeLine := Qc hz (by decide);refine wpAny_call (codeAny_call_builtin Fn.init.plain Fn.initEntry (wpAny_check_init_subU Fn T hC hx rfl ?_))
 wp_walk
 refine hq _ ⟨h.objs.size, ?_⟩ fun b o hb z => ?_
 ·rw [Wz _ (Qz _ hx) rfl];rfl
 ·rw [Jn _ _ (Ne.symm hb)];exact Qz _ z
end
def zGg (K : Frag) (bm : List Value) (ta : TA) : TS := fun D σ H => ta σ H fun vs H1 => ∃ (e C : Addr) (m : Str), vs = [.ref e, .str m] /\ H1 e = some (gN e C none) /\ jU K C bm = true /\ D.nx σ H1
section
variable {X : Cx}
theorem zkm {wx : Str} {W : Addr} {bm : List Value} {np apos pos epos : Pos} {e0 : Expr} {es : List Expr} {ta : TA} (hg : Gl X wx) (hm : X.mg wx = some (.ref W)) (h1 : specialIn X.K (.ref W) "__getattribute__" = some (some (.builtin "type.__getattribute__"))) (h2 : readsIn X.K W (.type "type") = true)
  (h3 : findCls X.K (.ref W) (.type "type") "__init__" = some (.val (.builtin "ValueError.__init__"))) (ha : PA X (e0 :: es) ta) {pl : Sem Bool}
  (ht : eval (.Call (.Attribute (.Name wx np) "__init__" apos) (e0 :: es) [] pos) X.env = (do
   let ov <- eval (.Name wx np) X.env
   standAt apos.atName
   let (f, first) <- holding [ov] (getMethod ov "__init__" pl)
   callWith pos f first (backTo pos (starEach (e0 :: es) X.env)) (backToKw pos (keywordEach [] X.env))) := by rfl)
  (hdb : (wx == ("__debug__" : Str)) = false := by decide) (he : starEach (e0 :: es) X.env = (false, eval e0 X.env) :: starEach es X.env := by rfl) (hpl : (backTo pos (starEach es X.env)).any (·.1) = false := by rfl)
  (hs : swapsWith (.Call (.Attribute (.Name wx np) "__init__" apos) (e0 :: es) [] pos) none epos.line X.env = pure false := by rfl) :
  PS X (.Expr (.Call (.Attribute (.Name wx np) "__init__" apos) (e0 :: es) [] pos) epos) (zGg X.K bm ta) := by
 intro pins s σ H D I h;refine wpAny_Expr_any ?_ I.quiet hs;refine PySem.W.methodCall_KW (pl := pl) (qW I hg hm ?_ hdb) ht;refine PySem.W.method_cls I.kIn h1 (PySem.W.cls_value I.kIn h2 h3 (by decide +kernel) ?_);have I0 := I.tok (s.toks + 1);have hA := ha pos pins { s with toks := s.toks + 1 } σ H _ I0 h;show wpAny _ _ (callWith pos (.builtin "ValueError.__init__") [] (backTo pos (starEach (e0 :: es) X.env)) []) _ _ _;rw [he] at hA ⊢;refine Calls.callWith_builtin (by show (false || (backTo pos (starEach es X.env)).any (·.1)) = false; rw [hpl] <;> rfl) (Calls.evalArgs_plain ?_);refine thn hA fun us s2 ⟨vs, H2, I2, r2, q2⟩ => ?_;obtain ⟨e, C, m, rfl, he2, hB, q⟩ := q2;obtain ⟨v1, v2, rfl, r1, r3⟩ := Vals.two r2;cases (show v1 = Value.ref e from r1)
 obtain ⟨t0, hx⟩ := zea I2 he2;obtain ⟨hp, g, d, t, os⟩ := s2;refine zxo (rest := [v2]) I2.kIn hB hx (fun h' hn k => ?_) (by show 1 <= 100; decide);have J := I2.write (x := e) (e := e) (o := gN e C none) (h' := h') (t' := t) (by rw [he2]; exact True.intro) (.inl rfl) k (by obtain ⟨t1, z⟩ := hn; exact ⟨_, z⟩) (zhu hn);have eH : upd H2 e (gN e C none) = H2 := by
  funext b
  by_cases hb : b = e
  ·subst hb; rw [zB, he2]
  ·rw [zS hb]
 rw [eH] at J;exact ⟨σ, H2, J, q⟩
def zGb (K : Frag) (ta tv : TE) (f : Str) : TS := fun D σ H => tv σ H fun y H1 => ta σ H1 fun x H2 => ∃ (e C : Addr), x = .ref e /\ H2 e = some (gN e C none) /\ findIn K (.ref C) "__setattr__" = some (some (.builtin "object.__setattr__")) /\ zdu K C = true /\ findIn K (.ref C) f = some none /\
 ∀ dx, H2 dx = none -> dx ≠ e -> D.nx σ (upd (upd H2 dx (.xd [(f, y)])) e (gN e C (some dx)))
theorem zom {o value : Expr} {f : Str} {pos pos' : Pos} {ta tv : TE} (ha : PE X o ta) (hv : PE X value tv) (hs : swapsWith value (some (.Attribute o f pos')) pos.line X.env = pure false := by rfl) : PS X (.Assign [.Attribute o f pos'] value pos) (zGb X.K ta tv f) := by
 intro pins s σ H D I h;refine plainObj_wpAny_Assign_Attribute (thn (hv pins s σ H _ I h) fun u s1 ⟨y, H1, I1, ry, q⟩ => thn (ha pins s1 σ H1 _ I1 q) fun ov s2 ⟨x, H2, I2, rx, e, C, ex, ee, f1, f2, f3, q2⟩ => ?_) hs;subst ex;obtain rfl : ov = Value.ref e := rx;obtain ⟨t0, hx⟩ := zea I2 ee;have fr : H2 s2.heap.objs.size = none := I2.hok.fresh (Qx _);have ne : s2.heap.objs.size ≠ e := Ne.symm (Qd (Qw hx));refine zCq I2.kIn f1 f2 f3 hx fun h' tk hx' hn k => ?_;have hx1 : (h'.update e fun _ => ⟨.ref C, none, .fields (zsn t0), #[]⟩).get? e = some ⟨.ref C, none, .fields (zsn t0), #[]⟩ := Wz _ hx' rfl;have other : ∀ b, b ≠ e -> (h'.update e fun _ => ⟨.ref C, none, .fields (zsn t0), #[]⟩).get? b = h'.get? b := fun b hb => Jn _ _ (Ne.symm hb);have k1 : ∀ b o, s2.heap.get? b = some o -> (h'.update e fun _ => ⟨.ref C, none, .fields (zsn t0), #[]⟩).get? b = some o := fun b o z => by
  by_cases hb : b = e
  ·subst hb;rw [hx] at z;rw [hx1, z]
  ·rw [other b hb];exact k b o hb z
 have J1 := I2.laid (a := s2.heap.objs.size) (o := .xd [(f, y)]) (t' := tk) k1 (Qx _) ⟨_, hn.at fun o z => (other _ ne).trans z, fun g => by
  show RelO (List.lookup g [(f, y)]) (if g = f then some u else none);by_cases hg : g = f
  ·subst hg;rw [if_pos rfl, Q7, beq_self_eq_true];exact ry
  ·rw [if_neg hg, Q7, beq_false_of_ne hg];exact True.intro⟩
 have J2 := J1.write (x := e) (e := e) (o := gN e C (some s2.heap.objs.size)) (h' := h') (t' := tk) (by rw [zS (Ne.symm ne), ee]; exact True.intro) (.inl rfl) (fun b o hb z => (other b hb).symm.trans z) ⟨_, hx'⟩ (zhu ⟨t0, hx'⟩);exact ⟨σ, _, J2, q2 _ fr ne⟩
end
end L2
namespace L2
open PySem PySem.Spec PyProof.Rows PySem.W
def rem (H : Hp) (e : Addr) : Hp := fun b => if b = e then none else H b
theorem zkk {H : Hp} {e : Addr} : rem H e e = none := if_pos rfl
theorem hX {H : Hp} {e b : Addr} (h : b ≠ e) : rem H e b = H b := if_neg h
theorem zkj {H : Hp} {e b : Addr} {o : HO} (h : rem H e b = some o) : b ≠ e /\ H b = some o := by
 by_cases hb : b = e
 ·subst hb; rw [zkk] at h; cases h
 ·rw [hX hb] at h; exact ⟨hb, h⟩
theorem Inv.drop {X : Cx} {pins : List (Addr × Obj)} {σ : St} {H : Hp} {s : Shared} {e : Addr} {φ : Heap -> Prop} (I : Inv X pins σ H s) (he : H e = some (.ext φ)) : Inv X pins σ (rem H e) s := by
 have nn : ∀ b, H b = none -> rem H e b = none := fun b z => by
  by_cases hb : b = e
  ·subst hb; exact zkk
  ·rw [hX hb]; exact z
 have kp : ∀ b o, H b = some o -> (∀ ψ, o ≠ .ext ψ) -> rem H e b = some o := fun b o z n => by
  have : b ≠ e := fun q => by subst q; rw [he] at z; cases z; exact n _ rfl
  rw [hX this]; exact z
 refine ⟨I.ok, I.os, I.bare, ⟨I.base.keep, I.base.slot, fun b u z n hx => nn b (I.base.free b u z n hx), I.base.there, fun b xs z => kp _ _ (I.base.tups b xs z) (fun _ => by intro q; cases q), fun b u xs z => kp _ _ (I.base.frzs b u xs z) (fun _ => by intro q; cases q), fun b ps z => ?_⟩, I.loc, I.cell, nn _ I.free, fun x c z => nn _ (I.freeC x c z), fun p q => ?_, fun b o z => ?_, I.len⟩
 ·obtain ⟨m, z'⟩ := I.base.tbls b ps z;exact ⟨m, kp _ _ z' (fun _ => by intro q; cases q)⟩
 ·obtain ⟨z, n, r⟩ := I.pin p q;exact ⟨z, nn _ n, r⟩
 ·obtain ⟨_, z'⟩ := zkj z;exact (I.hok b o z').stay (fun _ _ _ r => r) (fun c r => kp _ _ r (fun _ => by intro q; cases q)) fun c xs r => kp _ _ r (fun _ => by intro q; cases q)
section
variable {P : Program} {w : World} {K : PySem.W.Frag} {mg : Str -> Option Value} {base : Heap} {N : List Str} {qual : Str} {scope : Scope} {f : Addr} {cd : Value} {A : Around} {outer : List Env} {s0 : Shared} {H0 : Hp} {E : XK}
theorem zql {pins : List (Addr × Obj)} {σ : St} {H : Hp} {s2 : Shared} {e C : Addr} {od : Option Addr} {E2 : Value -> Shared -> Prop} (I : Inv (xU (CXq P w) P w K mg base N qual scope f cd A outer s0 H0 E) pins σ H s2)
  (h0 : s0.heap.get? e = none) (he : H e = some (gN e C od)) (q : E (.ref C) od (rem H e)) :
  wpAny (model P w) (A.deeper (envOfC qual scope s0.heap.objs.size f cd)) (leaving (envOfC qual scope s0.heap.objs.size f cd) (.ref e)) (fun _ s'' => CXq P w outer H0 s0 E (.ref e) s'') E2 s2 := by
 obtain ⟨t0, hx⟩ := zea I he;have I' := I.drop he;have eS : frs (envOfC qual scope s0.heap.objs.size f cd :: outer) = s0.heap.objs.size :: frs outer := rfl;have hin : ∀ env ∈ (envOfC qual scope s0.heap.objs.size f cd :: outer), ∀ b, env.frame = some b -> b ∈ e :: frs (envOfC qual scope s0.heap.objs.size f cd :: outer) := fun env he b hb => Qk _ (List.mem_filterMap.mpr ⟨env, he, hb⟩);have St : s2.heap.FunFrames base (envOfC qual scope s0.heap.objs.size f cd :: outer) := I.stack;have hfr : (A.deeper (envOfC qual scope s0.heap.objs.size f cd)).frames = some (envOfC qual scope s0.heap.objs.size f cd :: outer) := I.ok.frames;have ne0 : ∀ b o, s0.heap.get? b = some o -> b ≠ s0.heap.objs.size := fun b o z => Qd (Qw z);have nee : ∀ b o, s0.heap.get? b = some o -> b ≠ e := fun b o z q => by rw [q, h0] at z; cases z
 have kept : ∀ b o, b ≠ e -> b ≠ s0.heap.objs.size -> b ∉ frs outer -> s2.heap.get? b = some o -> (PySem.W.hideAll s2.heap (e :: frs (envOfC qual scope s0.heap.objs.size f cd :: outer))).get? b = some o := fun b o n0 n1 n2 z =>
  PySem.W.hideAll_get _ z fun hm => by
   rw [eS] at hm;rcases Qy.mp hm with h | h
   ·exact n0 h
   ·rcases Qy.mp h with h | h
    ·exact n1 h
    ·exact n2 h
 have trk : ∀ b u v, rem H e b = some v -> s2.heap.get? b = some u -> (PySem.W.hideAll s2.heap (e :: frs (envOfC qual scope s0.heap.objs.size f cd :: outer))).get? b = some u := fun b u v hv z => by
  refine PySem.W.hideAll_get _ z fun hm => ?_;rcases Qy.mp hm with h | h
  ·exact (zkj hv).1 h
  ·have := I'.stkFree b h;rw [hv] at this;cases this
 have z := wpAny_leaving_firstW (M := model P w) (E := fun _ _ => False) (Q := fun _ s' => ∃ h', s' = { s2 with heap := h' } /\ Heap.LeftW (PySem.W.hideAll s2.heap (e :: frs (envOfC qual scope s0.heap.objs.size f cd :: outer))) (envOfC qual scope s0.heap.objs.size f cd :: outer) e (.ref C) (.ref t0) s2.heap h') hfr (PySem.W.funFrames_hide St hin) rfl hx (fun b o z => PySem.W.of_hideAll _ z) (PySem.W.hideAll_none _ Qg) rfl rfl rfl fun h' hL => ⟨h', rfl, hL⟩;refine wpAny_mono (wR (E' := E2) jV z) (fun _ s' ⟨⟨h'', es, x1, ⟨_, _, x2⟩, x3, x4⟩, ds⟩ => ?_) fun _ _ z => z;subst es;have up : s2.heap.UpToSlots h'' := x4;have slot : ∀ b o, b ∈ frs outer -> s2.heap.get? b = some o -> ∃ sl, h''.get? b = some { o with slots := sl } := fun b o hb z => up b o z (vY I.funs hb z);have B : Un (frs outer) [] H0 (rem H e) s0.heap s2.heap := I'.base;have fly : Heap.FlyingW (PySem.W.hideAll s2.heap (e :: frs (envOfC qual scope s0.heap.objs.size f cd :: outer))) outer e (.ref C) (.ref t0) h'' := ⟨x1, PySem.W.hideAll_none _ Qg, x2, x3⟩;refine ⟨e, C, _, _, rem H e, od, rfl, I.os, I.bare, ⟨fun b o z n hb hx' => ?_, fun b o z n hb hx' => ?_, B.free, fun b o z hx' => ?_, B.tups, B.frzs, B.tbls⟩, ?_, fly, fun b o z hh hb => ?_, ?_, q⟩
 ·exact x1 b o (kept b o (nee b o z) (ne0 b o z) hb (B.keep b o z n hb hx'))
 ·obtain ⟨sl, z2⟩ := B.slot b o z n hb hx';obtain ⟨sl', z3⟩ := slot b _ hb z2;exact ⟨sl', z3⟩
 ·obtain ⟨o', z2⟩ := B.there b o z hx';by_cases hb : b ∈ frs outer
  ·obtain ⟨sl', z3⟩ := slot b _ hb z2;exact ⟨_, z3⟩
  ·exact ⟨_, x1 b o' (kept b o' (nee b o z) (ne0 b o z) hb z2)⟩
 ·exact I'.hok.stays fun b u v hv z => x1 b u (trk b u v hv z)
 ·have : ∃ u, (PySem.W.hideAll s2.heap (e :: frs (envOfC qual scope s0.heap.objs.size f cd :: outer))).get? b = some u := by
   rcases hh with ⟨q1, z1⟩ | ⟨q1, z1⟩
   ·obtain ⟨o', z2⟩ := B.there b q1 z1 (by simp);exact ⟨o', kept b o' (nee b q1 z1) (ne0 b q1 z1) hb z2⟩
   ·obtain ⟨u, z2⟩ := (I'.hok b q1 z1).there;exact ⟨u, trk b u _ z1 z2⟩
  obtain ⟨u, hu⟩ := this;have := x1 b u hu;rw [z] at this;cases this
  exact hu
 ·obtain ⟨o', h3, _⟩ := fly.there;exact ⟨o', h3, fun dx ex => (ds.at hx h3).1.trans ex, (ds.at hx h3).2.trans rfl⟩
end
section
variable {M : Model} {A : Around} {E : Value -> Shared -> Prop} {env : Env} {K : Frag} {C : Addr} {bm : List Value}
theorem zfc {s : Shared} {x : Sem Value} {Q : Flow -> Shared -> Prop} (hB : jU K C bm = true) (hh : A.handled = none)
  (h : wpAny M A x (fun v s1 => ∃ e t od, v = .ref e /\ K.In s1.heap /\ s1.heap.get? e = some ⟨.ref C, od, .fields (zsn t), #[]⟩ /\ E (.ref e) s1) E s) : wpAny M A (raiseStmt env (some x) none) Q E s := by
 unfold raiseStmt;refine Qq (wpAny_mono h (fun v s1 h1 => ?_) fun _ _ x => x);obtain ⟨e, t, od, rfl, X, he, hE⟩ := h1;obtain ⟨Na, nm, qn, bs, hd, sn, sub, ab, col, dd, k0, k1, k2, k3, k5, hC, T⟩ := kN X hB;have hcB : (Value.ref C :: bm).contains (.type "BaseException") = true := by rw [List.contains_cons, T.hasType zby, Bool.or_true]
 obtain ⟨hp, g, d, tk, os⟩ := s1;repeat (first | with_reducible refine wpAny_loadPart_at he ?_ | with_reducible refine wpAny_loadPart_at hC ?_ | (with_reducible refine wpAny_isSubtype_exc hC ?_; rw [hcB]) | wp_step)
 exact wpAny_raiseNew_none hh hE
end
end L2
namespace L2
open PySem PySem.Spec PyProof.Rows PySem.W
section
variable {P : Program} {w : World} {K : PySem.W.Frag} {mg : Str -> Option Value} {base : Heap} {N : List Str} {qual : Str} {scope : Scope} {f : Addr} {cd : Value} {A : Around} {outer : List Env} {s0 : Shared} {H0 : Hp} {E : XK}
def zxv (C : Addr) (sp : Sp) (E : XK) (ta : TA) : TS := fun _ σ H => ta σ H fun vs H1 => vs.length <= 100 /\ ∀ e, H1 e = none -> sp (.ref e :: (vs ++ [])) (upd H1 e (gN e C none)) (fun v H2 => v = .non /\ ∃ od, H2 e = some (gN e C od) /\ E (.ref C) od (rem H2 e)) E0
theorem zgb {x : Str} {C fI : Addr} {oI : Obj} {fd : FuncData} {ps : List Str} {sp : Sp} {k : Nat} {bm : List Value} {np cpos pos : Pos} {e0 : Expr} {ta : TA} (Fn : v9 P w K mg base CX0 k fI fd ps sp) (bd : Binds K fd ps [])
  (hr : Room (k + 1) (A.deeper (envOfC qual scope s0.heap.objs.size f cd))) (hg : Gl (xU (CXq P w) P w K mg base N qual scope f cd A outer s0 H0 E) x) (hm : mg x = some (.ref C)) (hB : jU K C bm = true) (hi : findIn K (.ref C) "__init__" = some (some (.ref fI)))
  (hfI : K.lookup fI = some oI) (hfc : oI.cls = .type "function")
  (ha : PA (xU (CXq P w) P w K mg base N qual scope f cd A outer s0 H0 E) [e0] ta) (hd : (x == ("__debug__" : Str)) = false := by decide)
  (hs : starEach [e0] (envOfC qual scope s0.heap.objs.size f cd) = [(false, eval e0 (envOfC qual scope s0.heap.objs.size f cd))] := by rfl) :
  PS (xU (CXq P w) P w K mg base N qual scope f cd A outer s0 H0 E) (.Raise (some (.Call (.Name x np) [e0] [] cpos)) none pos) (zxv C sp E ta) := by
 intro pins s σ H D I h;have hplain : (backTo cpos (starEach [e0] (envOfC qual scope s0.heap.objs.size f cd))).any (·.1) = false := by rw [hs]; rfl
 show wpAny (model P w) (A.deeper (envOfC qual scope s0.heap.objs.size f cd)) (exec (.Raise (some (.Call (.Name x np) [e0] [] cpos)) none pos) (envOfC qual scope s0.heap.objs.size f cd)) _ _ s;rw [arm_exec_Raise];refine Qq (wpAny_standAt (zfc (K := K) (C := C) (bm := bm) hB (I.ok.hd rfl) (Qq (wpAny_mono (wpAny_Call_ofName (qW I hg hm ?_ hd)) (fun v s3 h3 => Qq (wpAny_standAt (Qr h3))) fun _ _ x => x))));unfold callWith;refine Qq (wpAny_holding ?_);have hA := ha cpos pins s σ H _ I h;have hA' : wpAny (model P w) (A.deeper (envOfC qual scope s0.heap.objs.size f cd)) (spliced (backTo cpos (starEach [e0] (envOfC qual scope s0.heap.objs.size f cd)))) _ _ s := hA;rw [hs] at hA' ⊢;refine Calls.evalArgs_plain (thn hA' fun us s2 ⟨vs, H2, I2, r2, q2⟩ => Qq (wpAny_standAt ?_));obtain ⟨Na, nm, qn, bs, hd', sn, sub, ab, col, dd, k0, k1, k2, k3, k5, hC, T⟩ := kN I2.kIn hB;obtain ⟨hp, g, d, tk, os⟩ := s2;refine Qq (wpAny_keeperOf_exc hC ?_);refine Qq (zxn I2.kIn hB hi hfI hfc (fun h' e hx => ?_) (by show us.length <= sizeLine; rw [<- r2.length]; exact Qc q2.1 (by decide)));have hn : H2 e = none := by
  cases z : H2 e with
  | none => rfl
  | some o =>
   obtain ⟨u, zu⟩ := (I2.hok e o z).there;rw [hx.new] at zu;cases zu
 have gone : ∀ b o, hp.get? b = some o -> b ≠ e := fun b o z q => by rw [q, hx.new] at z; cases z
 have s0n : s0.heap.get? e = none := by
  cases z : s0.heap.get? e with
  | none => rfl
  | some o =>
   obtain ⟨o', z2⟩ := I2.base.there e o z (Ju);have := gone e o' z2;exact absurd rfl this
 obtain ⟨t0, ht, _, _⟩ := hx.there;have J1 := I2.kept (h' := h') (t' := tk) hx.keeps;have J2 : Inv (xU (CXq P w) P w K mg base N qual scope f cd A outer s0 H0 E) pins σ (upd H2 e (gN e C none)) { heap := h', gens := g, drawn := d, toks := tk, os := os } := by
  refine J1.track hn (zhu ⟨t0, ht⟩) ?_ ?_ ?_ ?_
  ·obtain ⟨_, ⟨o, _, _, z, _⟩, _⟩ := I2.loc;exact Ne.symm (gone _ o z)
  ·intro y c z;obtain ⟨_, o, z2, _⟩ := I2.cell y c z;exact gone _ o z2
  ·intro p0 hp0;exact gone _ _ (I2.pin p0 hp0).1
  ·intro b u z hx;obtain ⟨o', z2⟩ := I2.base.there b u z hx;exact gone _ o' z2
 have hq := q2.2 e hn;have rr : Vals (V.ref e :: (vs ++ [])) (Value.ref e :: (us ++ [])) := .cons rfl (r2.append .nil);have hl : (Value.ref e :: us ++ []).length = ps.length := by
  have e1 := rr.length;rw [Fn.len _ _ _ _ hq] at e1;exact e1.symm
 refine wpAny_call (codeAny_mono (Fn.run _ (envOfC qual scope s0.heap.objs.size f cd :: outer) _ _ ⟨Value.ref e :: us, []⟩ (Value.ref e :: (us ++ [])) _ _ E0 (hr.make C us []) (J2.env0.make C us []) (by simpa using bd { heap := h', gens := g, drawn := d, toks := tk, os := os } (Value.ref e :: us) J2.kIn hl) rr hq) fun r s' hq' => ?_);cases r with
 | error ev => exact False.elim hq'
 | ok fl =>
  cases fl with
  | ret u =>
   obtain ⟨v, H3, J3, rv, ev, od, q3, q4⟩ := J2.after hq';subst ev;refine ⟨rv, Qq (wpAny_holding (wpAny_point (Qr ?_)))⟩;obtain ⟨t3, h3⟩ := zea J3 q3;exact ⟨e, t3, od, rfl, J3.kIn, h3, zql J3 s0n q3 q4⟩
  | next => exact False.elim hq'
  | brk => exact False.elim hq'
  | cont => exact False.elim hq'
end
end L2
namespace L2
open PySem PySem.Spec PyProof.Rows
def yQ (X : Cx) (scope : Scope) (N' : List Str) (fp : List Addr) (C : Addr) (s : Shared) (H : Hp) (EX : XK) : Cx :=
 { wW X scope N' fp C s H with xe := fun e s' => ∃ pins' σ' H1 s1, Inv (wW X scope N' fp C s H) pins' σ' H1 s1 /\ CXq X.prog X.w X.stack H1 s1 EX e s' }
theorem zHn {X : Cx} {scope : Scope} {N' : List Str} {fp : List Addr} {C : Addr} {s : Shared} {H : Hp} {EX : XK} {pins : List (Addr × Obj)} {σ : St} {H1 : Hp} {s1 : Shared} (I : Inv (wW X scope N' fp C s H) pins σ H1 s1) : Inv (yQ X scope N' fp C s H EX) pins σ H1 s1 :=
 ⟨⟨I.ok.mod, I.ok.kind, I.ok.glob, I.ok.blt, I.ok.above, I.ok.inj, I.ok.has, I.ok.cab, I.ok.hd, I.ok.frames, I.ok.stk, I.ok.exf, I.ok.bs, I.ok.bsz, I.ok.noex, I.ok.exfs, I.ok.funs, I.ok.frf⟩, I.os, I.bare, I.base, I.loc, I.cell, I.free, I.freeC, I.pin, I.hok, I.len⟩
theorem zHo {X : Cx} {scope : Scope} {N' : List Str} {fp : List Addr} {C : Addr} {s : Shared} {H : Hp} {EX : XK} {pins : List (Addr × Obj)} {σ : St} {H1 : Hp} {s1 : Shared} (I : Inv (yQ X scope N' fp C s H EX) pins σ H1 s1) : Inv (wW X scope N' fp C s H) pins σ H1 s1 :=
 ⟨⟨I.ok.mod, I.ok.kind, I.ok.glob, I.ok.blt, I.ok.above, I.ok.inj, I.ok.has, I.ok.cab, I.ok.hd, I.ok.frames, I.ok.stk, I.ok.exf, I.ok.bs, I.ok.bsz, I.ok.noex, I.ok.exfs, I.ok.funs, I.ok.frf⟩, I.os, I.bare, I.base, I.loc, I.cell, I.free, I.freeC, I.pin, I.hok, I.len⟩
theorem zBx {X : Cx} {scope : Scope} {N' : List Str} {fp : List Addr} {C : Addr} {s : Shared} {H : Hp} {EX : XK} : jK (CXq X.prog X.w) (yQ X scope N' fp C s H EX) EX := fun pins σ H1 s1 _ _ I h => ⟨pins, σ, H1, s1, zHo I, h⟩
section
variable {prog : Program} {w : World} {A : Around} {R : Result -> Shared -> Prop} {s : Shared}
theorem zmu {Er : Value -> Shared -> Prop} {elt tg iter : Expr} {ifs : List Expr} {scope : Scope} {pos : Pos} {it acc : Value} {env : Env} (J : Nat -> Shared -> Prop)
  (turn : ∀ n s, J n s -> wpAny (model prog w) A (pyNext it) (fun r s1 => match r with
   | none => R (.ok .next) s1
   | some v => wpAny (model prog w) A (letOwnedTupleGo tg it v) (fun _ s2 => wpAny (model prog w) A (assign tg env v) (fun _ s3 =>
     wpAny (model prog w) A (forIn ifs true fun c r => if r = true then do
      let ok <- isTrue c env (eval c env)
      pure (ForInStep.yield ok) else pure (ForInStep.yield r)) (fun ok s4 =>
       if ok = true then wpAny (model prog w) A (eval elt env) (fun x s5 =>
        wpAny (model prog w) A (call (.builtin "list.append") [acc, x]) (fun _ s6 => ∃ m, m < n /\ J m s6) Er s5) Er s4
       else ∃ m, m < n /\ J m s4) Er s3) Er s2) Er s1) Er s)
  (hE : ∀ e s, Er e s -> wpAny (model prog w) A (do noteFrame e env; theTreesLotGoes e) (fun _ s' => R (.error e) s') (fun e' s' => R (.error e') s') s) (n : Nat) (h : J n s) : codeAny (model prog w) A (.compLoop (.ListComp elt [⟨tg, iter, ifs, 0⟩] scope pos) 0 it acc env) R s := by
 refine codeAny_loop rfl J (fun k s1 hJ => ?_) n h;show wpAny _ A ((compTurn (.ListComp elt [⟨tg, iter, ifs, 0⟩] scope pos) 0 it acc env).onRaise (fun y => do noteFrame y env; theTreesLotGoes y)) _ _ s1;refine wpAny_onRaise (wpAny_mono (E := Er) ?_ (fun _ _ q => q) fun e s z => hE e s z);rw [compTurn_list];refine Qq (wpAny_standAt (Qq (thn (turn k s1 hJ) fun r s2 h2 => ?_)));cases r with
 | none => exact Qr h2
 | some v =>
  refine Qq (thn h2 fun _ s3 h3 => Qq (thn h3 fun _ s4 h4 => Qq (thn h4 fun ok s5 h5 => ?_)));cases ok with
  | false => exact Qr ⟨rfl, h5⟩
  | true =>
   refine Qq (Qq (thn h5 fun x s6 h6 => Qq (thn h6 fun _ s7 h7 => ?_)));exact Qr (Qr ⟨rfl, h7⟩)
end
section
variable {X : Cx} {scope : Scope} {N' : List Str} {fr : List (Option Nat)} {pins : List (Addr × Obj)} {σ : St} {H : Hp} {s : Shared} {fp : List Addr} {it : Addr} {tn : Nat -> Heap -> Prop} {J : It}
 {elt tg iter : Expr} {ifs : List Expr} {g : TG} {tt : TT} {te : TE} {pos : Pos} {fin : List V -> Hp -> Prop} {W : Nat -> Nat -> List V -> St -> Hp -> Prop} {RR : Value -> Addr -> Result -> Shared -> Prop} {E : Value -> Shared -> Prop}
theorem zjs {EX : XK} (c : CompOk X scope N' fr) (hc : X.calm = true) (I : Inv X pins σ H s) (T : znc X.prog X.w X.K tg J fp it tn) (st : tn 0 s.heap) (hf : ∀ b ∈ fp, zbi X pins H b)
  (hg : ∀ fp C s H, PG (yQ X scope N' fp C s H EX) tg g) (ht : ∀ fp C s H, zsp (yQ X scope N' fp C s H EX) ifs tt) (he : ∀ fp C s H, PE (yQ X scope N' fp C s H EX) elt te)
  (hW : zef J g tt te fin W) (h0 : ∃ m, W 0 m [] (qB fr σ) H)
  (hRE : ∀ D C pins' σ' H1 s1 e s', s.heap.objs.size <= D -> s.heap.objs.size <= C -> D ≠ C -> Inv (wW X scope N' fp C s H) pins' σ' H1 s1 -> CXq X.prog X.w X.stack H1 s1 EX e s' -> wpAny (model X.prog X.w) X.A (do noteFrame e (compEnvC scope (kD X.env scope.names []) C X.env); theTreesLotGoes e) (fun _ s'' => RR (.ref D) C (.error e) s'') (fun e' s'' => RR (.ref D) C (.error e') s'') s')
  (hRR : ∀ D C ys H' s', Inv X pins σ (upd H' D (.lst ys)) s' -> (∃ m, s'.heap.Ns C m) -> zbi X pins (upd H' D (.lst ys)) C -> H' D = none -> fin ys H' -> RR (.ref D) C (.ok .next) s') :
  wpAny (model X.prog X.w) X.A (newList []) (fun acc s3 => wpAny (model X.prog X.w) X.A (newFunctionEnv scope X.env.globals (kD X.env scope.names []) [] X.env.qual none .none (some X.env)) (fun cenv s4 =>
   codeAny (model X.prog X.w) X.A (.compStart (.ListComp elt [⟨tg, iter, ifs, 0⟩] scope pos) 0 (.ref it) acc { cenv with scope := relabel scope X.env }) (RR acc cenv.locals) s4) E s3) E s := by
 refine Wb (wpAny_newFunctionEnv c.cells (by intro y hy; simp at hy) (fun h1 hns hsb => ?_) c.kind);dsimp only at hns hsb ⊢;generalize hH2 : s.heap.push { cls := .type "list", dict := none, data := .seq ([] : List Value).toArray } = H2 at hns hsb ⊢;have hD0 : s.heap.objs.size < H2.objs.size := by rw [<- hH2, Jg]; exact Nat.lt_succ_self _
 generalize hDD : s.heap.objs.size = D at hD0 ⊢;generalize hCC : H2.objs.size = C at hns hsb hD0 ⊢;have up : ∀ b o, s.heap.get? b = some o -> h1.get? b = some o := fun b o e => hsb.extBut b o (by
  have := Qw e;rw [hDD] at this;exact Qd (Nat.lt_trans this hD0)) (Qz _ (by rw [<- hH2]; exact Qz _ e))
 have accD : h1.get? D = some { cls := .type "list", dict := none, data := .seq ([] : List Value).toArray } := hsb.extBut _ _ (Qd hD0) (Qz _ (by rw [<- hH2, <- hDD]; exact Qh _ rfl));have hlt : ∀ b ∈ fp, b < s.heap.objs.size := fun b hb => by
  obtain ⟨o, e, _⟩ := T.obj 0 _ st b hb;exact Qw e
 have hle : s.heap.objs.size <= C := by rw [hDD]; exact Qu hD0
 generalize hX' : yQ X scope N' fp C s H EX = X';have I1 : Inv X' pins (qB fr σ) H { s with heap := h1, toks := s.toks + ([] : List (Str × Value)).length } := by
  subst hX';exact zHn (zkv c hc I hf hlt up hle hns)
 have st1 : tn 0 h1 := T.keep _ _ _ st fun b hb o e => up b o e;have pm : X'.prog = X.prog := by subst hX'; rfl
 have wm : X'.w = X.w := by subst hX'; rfl
 have km : X'.K = X.K := by subst hX'; rfl
 have cm : X'.calm = true := by subst hX'; rfl
 have am : X'.A = X.A := by subst hX'; rfl
 have xm : ∀ e s', X'.xe e s' -> ∃ pins' σ' H1 s1, Inv (wW X scope N' fp C s H) pins' σ' H1 s1 /\ CXq X.prog X.w X.stack H1 s1 EX e s' := by subst hX'; exact fun _ _ z => z
 have lm : X'.env.locals = C := by subst hX'; rfl
 have szm : X'.s₀.heap.objs.size = s.heap.objs.size := by subst hX'; rfl
 have nm : X'.pn = X.pn := by subst hX'; rfl
 have hg' := hg fp C s H;have ht' := ht fp C s H;have he' := he fp C s H;have em : X'.env = compEnvC scope (kD X.env scope.names []) C X.env := by subst hX'; rfl
 have fsm : X'.fs = frs X.stack := by subst hX'; rfl
 have exm : X'.ex = fp := by subst hX'; rfl
 rw [hX'] at hg' ht' he';have ageP : ∀ p ∈ X.pn ++ pins, p.1 < D := fun p hp => by rw [<- hDD]; exact Qw (I.pin p hp).1
 have ageC : ∀ x d, X'.env.cells.lookup x = some d -> d < D := fun x d e => by
  rw [em] at e;rcases jJ scope.names [] (c.has I.ok) e with q | q
  ·simp at q
  ·obtain ⟨v, z⟩ := I.cell x d q;rw [<- hDD];exact z.lt
 have cellF : ∀ x d, X'.env.cells.lookup x = some d -> X.env.cells.lookup x = some d := fun x d e => by
  rw [em] at e;rcases jJ scope.names [] (c.has I.ok) e with q | q
  ·simp at q
  ·exact q
 have fps : ∀ {H' : Hp} {oD : Obj}, (∀ b ∈ fp, H' b = none) -> ∀ b ∈ fp, zbi X' (pins ++ [(D, oD)]) H' b := fun {H' oD} hn b hb => by
  obtain ⟨_, f1, f2, f3, f4, f5⟩ := hf b hb;have hbD : b < D := by rw [<- hDD]; exact hlt b hb
  refine ⟨hn b hb, ?_, ?_, .inl (by rw [exm]; exact hb), fun x d e => f4 x d (cellF x d e), fun p hp => ?_⟩
  ·rw [lm]; exact Qd (Nat.lt_trans hbD hD0)
  ·rw [fsm];intro hs;rcases Qy.mp (I.stkSub b hs) with z | z
   ·exact f1 z
   ·exact f2 z
  ·rw [nm, <- Q9] at hp;rcases Q5.mp hp with z | z
   ·exact f5 p z
   ·rw [Q3.mp z];exact Wx hbD
 have pinD : ∀ {σ' : St} {H' : Hp} {s' : Shared} {its : List Value} {k : Nat}, Inv X' pins σ' H' s' -> s'.heap.get? D = some { cls := .type "list", data := .seq its.toArray k } -> H' D = none ->
   Inv X' (pins ++ [(D, { cls := .type "list", data := .seq its.toArray k })]) σ' H' s' := fun {σ' H' s' its k} J0 e n => J0.pins_of fun p hp => by
  rcases Q5.mp hp with z | z
  ·exact J0.pin p (Qf _ z)
  ·rw [Q3.mp z];refine ⟨e, n, ?_, ?_, fun v q => by cases q⟩
   ·show D ≠ X'.env.locals;rw [lm];exact Qd hD0
   ·rw [fsm];intro hs;have hb := I.stkSub D hs;rcases Qy.mp hb with z | z
    ·have := I.lt;rw [<- z, hDD] at this;exact Js _ this
    ·exact I.nofs (Nat.le_of_eq hDD) z
 have loop : ∀ s0 : Shared, s0 = { s with heap := h1, toks := s.toks + ([] : List (Str × Value)).length } ->
   codeAny (model X.prog X.w) X.A (.compLoop (.ListComp elt [⟨tg, iter, ifs, 0⟩] scope pos) 0 (.ref it) (.ref D) X'.env) (RR (.ref D) C) s0 := by
  rintro s0 rfl;obtain ⟨m0, w0⟩ := h0;refine zmu (Er := X'.xe) (fun n s' => ∃ i ys σ' H' its k, Inv X' pins σ' H' s' /\ tn i s'.heap /\ (∀ b ∈ fp, H' b = none) /\ s'.heap.get? D = some { cls := .type "list", data := .seq (its : List Value).toArray k } /\ H' D = none /\ Vals ys its /\ W i n ys σ' H')
   ?_ (fun e s z => by obtain ⟨pins', σ', H1, s1, z1, z2⟩ := xm e s z; rw [em]; exact hRE D C pins' σ' H1 s1 e s (by rw [hDD]; exact Qx _) hle (Qd hD0) z1 z2) m0 ⟨0, [], qB fr σ, H, [], 0, I1, st1, fun b hb => (hf b hb).1, accD, I.hok.fresh (by rw [hDD]; exact Qx _), .nil, w0⟩
  rintro n s1 ⟨i, ys, σ1, H1, its, k, J1, t1, n1, d1, nD1, v1, w1⟩;have J1' := pinD J1 d1 nD1;rcases hW i n ys σ1 H1 w1 with ⟨stop, hlen, fi⟩ | ⟨go, hlen, step⟩
  ·have a1 := T.done X' pm wm km cm i _ s1 σ1 H1 X'.xe J1' (fps n1) t1 stop;rw [am] at a1;refine thn a1 fun r s2 ⟨hr, J2⟩ => ?_;subst hr;obtain ⟨d2, nD2, _⟩ := J2.pin (D, _) (Qf _ (Qf _ Qg));have u2 : Un (frs X.stack) fp H H1 s.heap s2.heap := by
    have := J2.base;subst hX';exact this
   have hok2 : HOk X.prog X.w (upd H1 D (.lst ys)) s2.heap := by
    have h2 := J2.hok;rw [pm, wm] at h2;exact h2.track nD1 ⟨hlen, its, k, v1, d2⟩
   have J3 : Inv X pins σ (upd H1 D (.lst ys)) s2 := by
    refine I.call' (ch := fp) (by have := J2.os; subst hX'; exact this) ⟨fun b o e n hb hx => u2.keep b o e n hb hx, fun b o e n hb hx => u2.slot b o e n hb hx, fun b o e n hx => ?_, fun b o e hx => u2.there b o e hx, fun b xs e => ?_, fun b o u e => ?_, fun b ps e => ?_⟩ hok2 J2.bare fun b hb => ?_
    ·have ne : b ≠ D := Qd (by rw [<- hDD]; exact Qw e);rw [zS ne];exact u2.free b o e n hx
    ·have q := u2.tups b xs e;rw [zS (yD q nD1)];exact q
    ·have q := u2.frzs b o u e;rw [zS (yD q nD1)];exact q
    ·obtain ⟨more, q⟩ := u2.tbls b ps e;exact ⟨more, by rw [zS (yD q nD1)]; exact q⟩
    ·obtain ⟨_, f1, f2, f3, f4, f5⟩ := hf b hb;exact ⟨f3, f1, f4, f5⟩
   have nC : (upd H1 D (.lst ys)) C = none := by
    rw [zS (Wx hD0)];have := J2.free;rw [lm] at this;exact this
   refine hRR D C ys H1 s2 J3 ?_ (I.fpOk hle nC) nD1 fi;obtain ⟨m, hm, _⟩ := J2.loc;rw [lm] at hm;exact ⟨m, hm⟩
  ·have a1 := T.item X' pm wm km cm i _ s1 σ1 H1 X'.xe J1' (fps n1) t1 go;rw [am] at a1;refine thn a1 fun r s2 ⟨u, hr, h2⟩ => ?_;subst hr;refine thn h2 fun _ s3 ⟨x, H3, J3, r3, y3, t3, n3⟩ => ?_;have J3' := J3.pinned (fps n3) (T.obj _ _ t3);have a3 := hg' _ s3 σ1 H3 x u _ J3' r3 (step x H3 y3);rw [pm, wm, am] at a3;refine thn a3 fun _ s4 ⟨σ4, H4, J4, q4⟩ => ?_;have a4 := ht' _ s4 σ4 H4 _ J4 q4;rw [pm, wm, am] at a4;refine thn a4 fun ok s5 ⟨H5, J5, q5⟩ => ?_;have keepT : ∀ {σ' : St} {H' : Hp} {s' : Shared}, Inv X' (pins ++ [(D, { cls := .type "list", data := .seq its.toArray k })] ++ zcs fp s3.heap) σ' H' s' -> tn (i + 1) s'.heap /\ (∀ b ∈ fp, H' b = none) /\ s'.heap.get? D = some { cls := .type "list", data := .seq its.toArray k } /\ H' D = none /\ Inv X' pins σ' H' s' := fun {σ' H' s'} J0 => by
    refine ⟨T.keep _ _ _ t3 fun b hb o e => (J0.pin (b, o) (Qf _ (Qf _ (vX hb e)))).1, fun b hb => ?_, ?_, ?_, J0.unpinned.unpinned⟩
    ·obtain ⟨o, e, _⟩ := T.obj _ _ t3 b hb;exact (J0.pin (b, o) (Qf _ (Qf _ (vX hb e)))).2.1
    ·exact (J0.pin (D, _) (Qf _ (Wk _ (Qf _ Qg)))).1
    ·exact (J0.pin (D, { cls := .type "list", data := .seq its.toArray k }) (Qf _ (Wk _ (Qf _ Qg)))).2.1
   cases ok with
   | false =>
    obtain ⟨m', hm, w'⟩ := q5;obtain ⟨e1, e2, e3, e4, e5⟩ := keepT J5;rw [if_neg Qs];exact ⟨m', hm, i + 1, ys, σ4, H5, its, k, e5, e1, e2, e3, e4, v1, w'⟩
   | true =>
    rw [if_pos rfl];have a5 := he' _ s5 σ4 H5 _ J5 q5;rw [pm, wm, am] at a5;refine thn a5 fun u6 s6 ⟨y, H6, J6, r6, m', hm, w6⟩ => ?_;obtain ⟨e1, e2, e3, e4, e5⟩ := keepT J6;refine append_at (hsz := by show its.toArray.size <= sizeLine; rw [Q4, <- v1.length]; exact Qu hlen) e3 fun h7 sb7 d7 => ?_;have J7 : Inv X' pins σ4 H6 { s6 with heap := h7 } := e5.turned (t' := s6.toks) (it := D) (fun b o hb e => sb7.extBut b o hb e) e4 (by rw [lm]; exact Qd hD0) (.inr (by rw [szm, hDD]; exact Qx _)) (fun x d e => Qd (ageC x d e)) fun p hp => by
     rw [nm] at hp;exact Qd (ageP p hp)
    refine ⟨m', hm, i + 1, ys ++ [y], σ4, H6, its ++ [u6], k + 1, J7, T.keep _ _ _ e1 fun b hb o e => sb7.extBut b o (Qd (by rw [<- hDD]; exact hlt b hb)) e, e2, ?_, e4, v1.append (.cons r6 .nil), w6⟩;rw [d7, List.push_toArray]
 have env1 : ({ newEnv scope C X.env.globals (kD X.env scope.names []) X.env.qual none .none (some X.env) 0 with scope := relabel scope X.env } : Env) = X'.env := by rw [em]; rfl
 have lp := loop _ rfl;rw [em] at lp;exact codeAny_compStart_list lp (T.self _ 0 _ _ _ st1 lp)
end
theorem zFf {P : Program} {w : World} {K : PySem.W.Frag} {mg : Str -> Option Value} {base : Heap} {N : List Str} {qual : Str} {scope : Scope} {f : Addr} {cd : Value} {A : Around} {outer : List Env} {s0 : Shared} {H0 : Hp} {E : XK}
  {pins : List (Addr × Obj)} {σ : St} {H H' : Hp} {s s' : Shared} {ea C : Addr} {a0 : Value} {B h' : Heap} {od : Option Addr} (I : Inv (xU (CXq P w) P w K mg base N qual scope f cd A outer s0 H0 E) pins σ H s) (os : s'.os = s.os) (bare : AllBare s'.gens)
  (un : Un (frs (envOfC qual scope s0.heap.objs.size f cd :: outer)) [] H H' s.heap s'.heap) (hok : HOk P w H' s'.heap) (fr0 : s'.heap.FunFrames B (envOfC qual scope s0.heap.objs.size f cd :: outer))
  (kB : ∀ b o, s'.heap.get? b = some o -> ((∃ q, s.heap.get? b = some q) \/ ∃ q, H' b = some q) -> b ∉ frs (envOfC qual scope s0.heap.objs.size f cd :: outer) -> B.get? b = some o) (fly' : Heap.FlyingW B outer ea (.ref C) a0 h') (up : s'.heap.UpToSlots h') (di : zxd h' ea od) (q : E (.ref C) od H') :
  CXq P w outer H0 s0 E (.ref ea) { s' with heap := h' } := by
 have eS : frs (envOfC qual scope s0.heap.objs.size f cd :: outer) = s0.heap.objs.size :: frs outer := rfl;have fsub : ∀ b, b ∉ frs outer -> b ≠ s0.heap.objs.size -> b ∉ frs (envOfC qual scope s0.heap.objs.size f cd :: outer) := fun b h1 h2 hb => by
  rw [eS] at hb;exact (Qy.mp hb).elim h2 h1
 have fin : ∀ b, b ∈ frs outer -> b ∈ frs (envOfC qual scope s0.heap.objs.size f cd :: outer) := fun b hb => by rw [eS]; exact Qk _ hb
 have ne0 : ∀ b o, s0.heap.get? b = some o -> b ≠ s0.heap.objs.size := fun b o z => Qd (Qw z);have BS : Un (frs outer) [] H0 H s0.heap s.heap := I.base;have un' : Un (frs (envOfC qual scope s0.heap.objs.size f cd :: outer)) [] H H' s.heap s'.heap := un;have sl : ∀ b o, b ∈ frs outer -> s'.heap.get? b = some o -> ∃ sl, h'.get? b = some { o with slots := sl } := fun b o hb z => up b o z (vY fr0 (fin b hb) z);have kB' : ∀ b o, s'.heap.get? b = some o -> ((∃ q, s.heap.get? b = some q) \/ ∃ q, H' b = some q) -> b ∉ frs (envOfC qual scope s0.heap.objs.size f cd :: outer) -> B.get? b = some o := kB;have trf : ∀ b, b ∈ frs (envOfC qual scope s0.heap.objs.size f cd :: outer) -> H' b = none := fun b hb => by
  obtain ⟨_, o, z1, _⟩ := (show s.heap.FunFrames base (envOfC qual scope s0.heap.objs.size f cd :: outer) from I.stack).mem hb;exact un'.free b o z1 (I.stkFree b hb) (by simp)
 refine ⟨ea, C, a0, B, H', od, rfl, os.trans I.os, bare, ⟨fun b o z n hb hx => ?_, fun b o z n hb hx => ?_, fun b o z n hx => ?_, fun b o z hx => ?_, fun b xs z => un'.tups b xs (BS.tups b xs z), fun b o u z => un'.frzs b o u (BS.frzs b o u z), fun b ps z => ?_⟩, ?_, fly', fun b o z hh hb => ?_, di, q⟩
 ·have z1 := BS.keep b o z n hb hx;have z2 := un'.keep b o z1 (BS.free b o z n hx) (fsub b hb (ne0 b o z)) (by simp);exact fly'.1 b o (kB' b o z2 (.inl ⟨o, z1⟩) (fsub b hb (ne0 b o z)))
 ·obtain ⟨s1, z1⟩ := BS.slot b o z n hb hx;obtain ⟨s2, z2⟩ := un'.slot b _ z1 (BS.free b o z n hx) (fin b hb) (by simp);obtain ⟨s3, z3⟩ := sl b _ hb z2;exact ⟨s3, z3⟩
 ·obtain ⟨o', z1⟩ := BS.there b o z hx;exact un'.free b o' z1 (BS.free b o z n hx) (by simp)
 ·obtain ⟨o1, z1⟩ := BS.there b o z hx;obtain ⟨o2, z2⟩ := un'.there b o1 z1 (by simp);by_cases hb : b ∈ frs outer
  ·obtain ⟨s3, z3⟩ := sl b _ hb z2;exact ⟨_, z3⟩
  ·exact ⟨_, fly'.1 b o2 (kB' b o2 z2 (.inl ⟨o1, z1⟩) (fsub b hb (ne0 b o z)))⟩
 ·obtain ⟨m1, z1⟩ := BS.tbls b ps z;obtain ⟨m2, z2⟩ := un'.tbls b _ z1;exact ⟨m1 ++ m2, by rw [z2, Array.append_assoc]⟩
 ·refine hok.stays fun b u v hv z => fly'.1 b u (kB' b u z (.inr ⟨v, hv⟩) fun hb => ?_);have := trf b hb;rw [hv] at this;cases this
 ·have ex : ∃ u, s'.heap.get? b = some u /\ B.get? b = some u := by
   rcases hh with ⟨q1, z1⟩ | ⟨q1, z1⟩
   ·obtain ⟨o1, z2⟩ := BS.there b q1 z1 (by simp);obtain ⟨o2, z3⟩ := un'.there b o1 z2 (by simp);exact ⟨o2, z3, kB' b o2 z3 (.inl ⟨o1, z2⟩) (fsub b hb (ne0 b q1 z1))⟩
   ·obtain ⟨u, z2⟩ := (hok b q1 z1).there;refine ⟨u, z2, kB' b u z2 (.inr ⟨q1, z1⟩) fun hm => ?_⟩;have := trf b hm;rw [z1] at this;cases this
  obtain ⟨u, _, hu⟩ := ex;have := fly'.1 b u hu;rw [z] at this;cases this
  exact hu
section
variable {M : Model} {A : Around} {E : Value -> Shared -> Prop} {s : Shared}
theorem zci {e : Value} {env env' : Env} (h : env'.frame = env.frame) : noteFrame e env' = noteFrame e env := by
 unfold noteFrame PySem.frameOf;rw [h]
theorem zqm {base : Heap} {env : Env} {outer : List Env} {L e : Addr} {cls a0 fl : Value} {Q : Unit -> Shared -> Prop} (hfr : A.frames = some (env :: outer)) (hl : s.heap.FunFrames base (env :: outer)) (hf : env.frame = some L) (ht : s.heap.TracedAtW base e cls a0 fl) (hkb : base.StaysIn s.heap) (hen : base.get? e = none)
  (hQ : ∀ h', Heap.FlyingW base outer e cls a0 h' -> s.heap.UpToSlots h' -> Q () { s with heap := h' }) : wpAny M A (leaving env (.ref e)) Q E s := by
 by_cases hfl : fl = rawInt L
 ·subst hfl;unfold leaving;refine Qq (wpAny_noteFrame_againW hf ht ?_);refine wpAny_landsW ⟨hkb, hen, hl, ht⟩ fun h' fly up => ?_;obtain ⟨k1, k2, ⟨_, _, k3⟩, k4⟩ := fly;exact hQ h' ⟨k1, k2, k3, k4⟩ up
 ·obtain ⟨oe, vs, T, oT, ts, he, ⟨hcls, h0⟩, hd, h1, hnT, hTe, hT, hdT, h3⟩ := ht;subst hcls;unfold leaving noteFrame;simp only [hf];refine Qq (Qq (wpAny_field he hd h1 ?_));rw [if_pos (show (Value.ref T != Value.none) = true from by simp)];refine Qq (wpAny_field hT hdT h3 ?_);rw [if_neg (show ¬ ((fl == rawInt L) = true) from fun q => hfl (beq_iff_eq.mp q))];refine Qq (wpAny_setField hT hdT (Array.getElem?_eq_some_iff.mp h3).1 ?_);have other : ∀ b, b ≠ T -> (s.heap.update T (Obj.mapFields (·.setIfInBounds 3 Value.none))).get? b = s.heap.get? b := fun b hb => Jn _ _ (Ne.symm hb);have noRec : ∀ b o, s.heap.get? b = some o -> (∀ vs, o.data ≠ .fields vs) -> b ≠ T := fun b o hb hnf q => by
   rw [q, hT] at hb; injection hb with hb; subst hb; exact hnf ts hdT
  refine wpAny_newEntryW hfr (hl.of_keeps fun b o hb hnf => ⟨o, (other b (noRec b o hb hnf)).trans hb, rfl⟩) hf ((other e (Ne.symm hTe)).trans he)
   (fun b o hbo => (other b fun q => by rw [q, hnT] at hbo; cases hbo).trans (hkb b o hbo)) hen hd (Array.getElem?_eq_some_iff.mp h1).1 h0
   fun h' ⟨x1, ⟨_, _, x2⟩, x3, x4⟩ => hQ h' ⟨x1, hen, x2, x3⟩ fun b o hb hnf => x4 b o ((other b (noRec b o hb hnf)).trans hb) hnf
end
section
variable {P : Program} {w : World} {K : PySem.W.Frag} {mg : Str -> Option Value} {base : Heap} {N : List Str} {qual : Str} {scope0 : Scope} {f : Addr} {cd : Value} {A : Around} {outer : List Env} {s0 : Shared} {H0 : Hp} {E : XK}
theorem kA {h B B' : Heap} (k : ∀ b, B.get? b = none -> B'.get? b = none) : ∀ {l : List Env}, h.FunFrames B l -> h.FunFrames B' l
 | [], _ => trivial
 | _ :: _, ⟨h1, ⟨L, o, a, b, c, d⟩, h3⟩ => ⟨h1, ⟨L, o, a, k L b, c, d⟩, kA k h3⟩
theorem hG {h h' B : Heap} : ∀ {l : List Env}, (∀ b ∈ frs l, ∃ o, h'.get? b = some o /\ ∀ vs, o.data ≠ .fields vs) -> h.FunFrames B l -> h'.FunFrames B l
 | [], _, _ => trivial
 | env :: r, k, ⟨h1, ⟨L, o, a, b, c, d⟩, h3⟩ => by
  have e : frs (env :: r) = L :: frs r := by
   show (env :: r).filterMap (·.frame) = _;rw [List.filterMap_cons, a];rfl
  obtain ⟨o', z1, z2⟩ := k L (by rw [e]; exact Qg);exact ⟨h1, ⟨L, o', a, b, z1, z2⟩, hG (fun b hb => k b (by rw [e]; exact Qk _ hb)) h3⟩
theorem zvj {scope : Scope} {N' : List Str} {fp : List Addr} {pins pins' : List (Addr × Obj)} {σ σ' : St} {H2 H1 : Hp} {s2 s1 s' : Shared} {C : Addr} {e : Value} {E2 : Value -> Shared -> Prop}
  (I : Inv (xU (CXq P w) P w K mg base N qual scope0 f cd A outer s0 H0 E) pins σ H2 s2) (hfp : ∀ b ∈ fp, zbi (xU (CXq P w) P w K mg base N qual scope0 f cd A outer s0 H0 E) pins H2 b) (hC : s2.heap.objs.size <= C)
  (z1 : Inv (wW (xU (CXq P w) P w K mg base N qual scope0 f cd A outer s0 H0 E) scope N' fp C s2 H2) pins' σ' H1 s1) (z2 : CXq P w (envOfC qual scope0 s0.heap.objs.size f cd :: outer) H1 s1 E e s') :
  wpAny (model P w) (A.deeper (envOfC qual scope0 s0.heap.objs.size f cd)) (do noteFrame e (compEnvC scope (kD (envOfC qual scope0 s0.heap.objs.size f cd) scope.names []) C (envOfC qual scope0 s0.heap.objs.size f cd)); theTreesLotGoes e)
   (fun _ s'' => ∃ m, s''.heap.Ns C m /\ ∀ h', Heap.SameBut C s''.heap h' -> ∀ cenv : Env, cenv.locals = C -> wpAny (model P w) (A.deeper (envOfC qual scope0 s0.heap.objs.size f cd)) (PySem.passOn "comprehension.variables-let-go" e cenv : Sem Value) (fun _ _ => False)
    (xU (CXq P w) P w K mg base N qual scope0 f cd A outer s0 H0 E).xe { s'' with heap := h' }) E2 s' := by
 have J1 : Inv (xU (CXq P w) P w K mg base N qual scope0 f cd A outer s0 H0 E) pins σ H1 s1 := I.call' (ch := fp) z1.os z1.base z1.hok z1.bare fun b hb => let ⟨_, f1, f2, f3, f4, f5⟩ := hfp b hb; ⟨f3, f1, f4, f5⟩;obtain ⟨f0, f1, ff2, f3, f4, f5⟩ := I.fpOk (H' := H1) hC (by have := z1.free; exact this);have Jc : Inv (xU (CXq P w) P w K mg base N qual scope0 f cd A outer s0 H0 E) pins σ H1 { s1 with heap := PySem.W.hideAll s1.heap [C] } := J1.turned (t' := s1.toks) (it := C) (fun b o hb z => PySem.W.hideAll_get _ z (by simpa using hb)) f0 f1 f3 f4 f5;obtain ⟨ea, Cx, a0, B, H', od, rfl, os, bare, un, hok, fly, kB, di, q⟩ := z2;have hfr : (A.deeper (envOfC qual scope0 s0.heap.objs.size f cd)).frames = some (envOfC qual scope0 s0.heap.objs.size f cd :: outer) := I.ok.frames;have nC : C ∉ frs (envOfC qual scope0 s0.heap.objs.size f cd :: outer) := fun hm => by
  obtain ⟨_, o, z, _⟩ := (show s2.heap.FunFrames base (envOfC qual scope0 s0.heap.objs.size f cd :: outer) from I.stack).mem hm;exact Js _ (Q2 (Qw z) hC)
 rw [zci (e := .ref ea) (env := envOfC qual scope0 s0.heap.objs.size f cd) (env' := compEnvC scope (kD (envOfC qual scope0 s0.heap.objs.size f cd) scope.names []) C (envOfC qual scope0 s0.heap.objs.size f cd)) rfl];refine Qq (zgd hfr rfl fly fun h4 held up4 ds4 => wpAny_theTreesLotGoes ?_);obtain ⟨st4, hen, fr4, tr4⟩ := held;obtain ⟨m, hn, _⟩ := z1.loc;obtain ⟨oC, esC, epC, hoC, rC⟩ := id hn;have hoC1 : s1.heap.get? C = some oC := hoC;have sC : s'.heap.get? C = some oC := un.keep C oC hoC1 f0 nC (by simp);have BC : B.get? C = some oC := kB C oC sC (.inl ⟨oC, hoC1⟩) nC;refine ⟨m, ⟨oC, esC, epC, st4 C oC BC, rC⟩, fun h5 sb cenv hcl => ?_⟩;obtain ⟨oe, vs, T, oT, ts, he, hcls, hd, h1, hnT, hTe, hT, hdT, h3⟩ := tr4;have eC : ea ≠ C := fun z => by rw [z, BC] at hen; cases hen
 have TC : T ≠ C := fun z => by rw [z, BC] at hnT; cases hnT
 have he5 : h5.get? ea = some oe := sb.extBut _ _ eC he;have hT5 : h5.get? T = some oT := sb.extBut _ _ TC hT;have hsz3 : 3 < ts.size := (Array.getElem?_eq_some_iff.mp h3).1;unfold PySem.passOn setFlight;refine Qq (wpAny_field he5 hd h1 ?_);rw [if_neg (show ¬ ((Value.ref T == Value.none) = true) from by simp)];refine Qq (Qq (wpAny_field he5 hd h1 ?_));rw [if_pos (show (Value.ref T != Value.none) = true from by simp)];refine wpAny_setField hT5 hdT hsz3 (wpAny_throw ?_);generalize (cenv.frame.elim Value.none fun f => rawInt f) = fl;have other : ∀ b, b ≠ T -> (h5.update T (Obj.mapFields (·.setIfInBounds 3 fl))).get? b = h5.get? b := fun b hb => Jn _ _ (Ne.symm hb);have noRec : ∀ b o, h5.get? b = some o -> (∀ vs, o.data ≠ .fields vs) -> b ≠ T := fun b o hb hnf q => by
  rw [q, hT5] at hb; injection hb with hb; subst hb; exact hnf ts hdT
 have less : ∀ b, B.get? b = none -> (PySem.W.hideAll B [C]).get? b = none := fun b z => by
  cases z2 : (PySem.W.hideAll B [C]).get? b with
  | none => rfl
  | some o => have := PySem.W.of_hideAll _ z2; rw [z] at this; cases this
 have st6 : (PySem.W.hideAll B [C]).StaysIn (h5.update T (Obj.mapFields (·.setIfInBounds 3 fl))) := fun b o z => by
  have zb := PySem.W.of_hideAll _ z;have bC : b ≠ C := fun q => by rw [q, PySem.W.hideAll_none _ Qg] at z; cases z
  rw [other b (fun q => by rw [q, hnT] at zb; cases zb)];exact sb.extBut _ _ bC (st4 b o zb)
 have inB : ∀ b o, b ≠ C -> s'.heap.get? b = some o -> ((∃ q, s1.heap.get? b = some q) \/ ∃ q, H' b = some q) -> b ∉ frs (envOfC qual scope0 s0.heap.objs.size f cd :: outer) -> (PySem.W.hideAll B [C]).get? b = some o := fun b o hb z hh hfr => PySem.W.hideAll_get _ (kB b o z hh hfr) (by simpa using hb);have HC : H' C = none := un.free C oC hoC1 f0 (by simp);have trB : ∀ b o v, H' b = some v -> s'.heap.get? b = some o -> (PySem.W.hideAll B [C]).get? b = some o := fun b o v hv z => by
  refine inB b o (fun q => by rw [q, HC] at hv; cases hv) z (.inr ⟨v, hv⟩) fun hm => ?_;obtain ⟨_, o1, y1, _⟩ := (show s1.heap.FunFrames base (envOfC qual scope0 s0.heap.objs.size f cd :: outer) from J1.stack).mem hm;have := un.free b o1 y1 (J1.stkFree b hm) (by simp);rw [hv] at this;cases this
 have frn : ∀ b, b ∈ frs (envOfC qual scope0 s0.heap.objs.size f cd :: outer) -> b ≠ C := fun b hb q => nC (q ▸ hb);have sl6 : ∀ b o, b ∈ frs (envOfC qual scope0 s0.heap.objs.size f cd :: outer) -> s'.heap.get? b = some o -> ∃ sl, (h5.update T (Obj.mapFields (·.setIfInBounds 3 fl))).get? b = some { o with slots := sl } := fun b o hb z => by
  have nf := vY fly.2.2.1 hb z;obtain ⟨sl, z4⟩ := up4 b o z nf;have z5 := sb.extBut _ _ (frn b hb) z4;exact ⟨sl, by rw [other b (noRec b _ z5 nf)]; exact z5⟩
 have fr6 : (h5.update T (Obj.mapFields (·.setIfInBounds 3 fl))).FunFrames (PySem.W.hideAll B [C]) (envOfC qual scope0 s0.heap.objs.size f cd :: outer) := by
  refine kA less (hG (fun b hb => ?_) fly.2.2.1);obtain ⟨_, o, z, nf⟩ := fly.2.2.1.mem hb;obtain ⟨sl, z6⟩ := sl6 b o hb z;exact ⟨_, z6, nf⟩
 have scs : ∀ b o, (PySem.W.hideAll s1.heap [C]).get? b = some o -> b ≠ C /\ s1.heap.get? b = some o := fun b o z => ⟨fun q => (by rw [q, PySem.W.hideAll_none _ Qg] at z; cases z), PySem.W.of_hideAll _ z⟩;have un6 : Un (frs (envOfC qual scope0 s0.heap.objs.size f cd :: outer)) [] H1 H' (PySem.W.hideAll s1.heap [C]) (h5.update T (Obj.mapFields (·.setIfInBounds 3 fl))) := by
  refine ⟨fun b o z n hb hx => ?_, fun b o z n hb hx => ?_, fun b o z n hx => un.free b o (scs b o z).2 n hx, fun b o z hx => ?_, un.tups, un.frzs, un.tbls⟩
  ·obtain ⟨bC, y⟩ := scs b o z;exact st6 b o (inB b o bC (un.keep b o y n hb hx) (.inl ⟨o, y⟩) hb)
  ·obtain ⟨bC, y⟩ := scs b o z;obtain ⟨sl, y2⟩ := un.slot b o y n hb hx;obtain ⟨sl', y3⟩ := sl6 b _ hb y2;exact ⟨sl', y3⟩
  ·obtain ⟨bC, y⟩ := scs b o z;obtain ⟨o', y2⟩ := un.there b o y hx;by_cases hb : b ∈ frs (envOfC qual scope0 s0.heap.objs.size f cd :: outer)
   ·obtain ⟨sl', y3⟩ := sl6 b _ hb y2;exact ⟨_, y3⟩
   ·exact ⟨o', st6 b o' (inB b o' bC y2 (.inl ⟨o, y⟩) hb)⟩
 have hok6 : HOk P w H' (h5.update T (Obj.mapFields (·.setIfInBounds 3 fl))) := hok.stays fun b u v hv z => st6 b u (trB b u v hv z);have he6 : (h5.update T (Obj.mapFields (·.setIfInBounds 3 fl))).get? ea = some oe := (other ea (Ne.symm hTe)).trans he5;have tr6 : (h5.update T (Obj.mapFields (·.setIfInBounds 3 fl))).TracedAtW (PySem.W.hideAll B [C]) ea (.ref Cx) a0 fl :=
  ⟨oe, vs, T, _, _, he6, hcls, hd, h1, less T hnT, hTe, Wz _ hT5 (Obj.isFreed_of_fields (Obj.data_mapFields hdT _)), Obj.data_mapFields hdT _, by simp [hsz3]⟩
 show wpAny (model P w) (A.deeper (envOfC qual scope0 s0.heap.objs.size f cd)) (leaving (envOfC qual scope0 s0.heap.objs.size f cd) (.ref ea)) _ _ _;have lv := zqm (M := model P w) (E := fun _ _ => False) (s := { s' with heap := h5.update T (Obj.mapFields (·.setIfInBounds 3 fl)) }) (Q := fun _ s3 => ∃ h7, s3 = { s' with heap := h7 } /\ Heap.FlyingW (PySem.W.hideAll B [C]) outer ea (.ref Cx) a0 h7 /\ (h5.update T (Obj.mapFields (·.setIfInBounds 3 fl))).UpToSlots h7) hfr fr6 rfl tr6 st6 (less ea hen) fun h7 a b => ⟨h7, rfl, a, b⟩;refine wpAny_mono (wR (E' := fun _ _ => False) jV lv) (fun _ s3 ⟨⟨h7, es, fly7, up7⟩, ds7⟩ => ?_) fun _ _ z => z.elim;subst es;refine zFf (s' := { s' with heap := h5.update T (Obj.mapFields (·.setIfInBounds 3 fl)) }) Jc os bare un6 hok6 fr6 (fun b o z hh hb => ?_) fly7 up7 ?_ q
 ·have : ∃ u, (PySem.W.hideAll B [C]).get? b = some u := by
   rcases hh with ⟨q1, y⟩ | ⟨v, y⟩
   ·obtain ⟨bC, y1⟩ := scs b q1 y;obtain ⟨o', y2⟩ := un.there b q1 y1 (by simp);exact ⟨o', inB b o' bC y2 (.inl ⟨q1, y1⟩) hb⟩
   ·obtain ⟨u, y2⟩ := (hok b v y).there;exact ⟨u, trB b u v y y2⟩
  obtain ⟨u, hu⟩ := this;have := st6 b u hu;rw [z] at this;cases this
  exact hu
 ·obtain ⟨o, y1, y2, y3⟩ := di;obtain ⟨o7, y7, _⟩ := fly7.there;exact ⟨o7, y7, fun dx ex => (ds7.at he6 y7).1.trans ((ds4.at y1 he).1.trans (y2 dx ex)), (ds7.at he6 y7).2.trans ((ds4.at y1 he).2.trans y3)⟩
variable {scope : Scope} {N' : List Str} {fr : List (Option Nat)} {elt tg iter : Expr} {ifs : List Expr} {g : TG} {tt : TT} {te : TE} {pos : Pos}
theorem zcc {wi : TI} {i : Nat} {y : Str} {py spos : Pos} (hN : N.Nodup) (hi' : N[i]? = some y) (hy : Loc (xU (CXq P w) P w K mg base N qual scope0 f cd A outer s0 H0 E).env.scope y) (c : CompOk (xU (CXq P w) P w K mg base N qual scope0 f cd A outer s0 H0 E) scope N' fr) (hi : PI (xU (CXq P w) P w K mg base N qual scope0 f cd A outer s0 H0 E) tg iter wi) (hg : ∀ fp C s H, PG (yQ (xU (CXq P w) P w K mg base N qual scope0 f cd A outer s0 H0 E) scope N' fp C s H E) tg g) (ht : ∀ fp C s H, zsp (yQ (xU (CXq P w) P w K mg base N qual scope0 f cd A outer s0 H0 E) scope N' fp C s H E) ifs tt)
  (he : ∀ fp C s H, PE (yQ (xU (CXq P w) P w K mg base N qual scope0 f cd A outer s0 H0 E) scope N' fp C s H E) elt te) (hs : ∀ x, foldedSetIterable iter (xU (CXq P w) P w K mg base N qual scope0 f cd A outer s0 H0 E).env x = pure x := by intro _; rfl)
  (hsw : swapsWith (.ListComp elt [⟨tg, iter, ifs, 0⟩] scope pos) (some (.Name y py)) spos.line (xU (CXq P w) P w K mg base N qual scope0 f cd A outer s0 H0 E).env = pure true := by rfl) (hf : (xU (CXq P w) P w K mg base N qual scope0 f cd A outer s0 H0 E).fn y = true \/ (xU (CXq P w) P w K mg base N qual scope0 f cd A outer s0 H0 E).env.scope.names.lookup y = some .local := by first | exact .inl rfl | exact .inr rfl | assumption) :
  PS (xU (CXq P w) P w K mg base N qual scope0 f cd A outer s0 H0 E) (.Assign [.Name y py] (.ListComp elt [⟨tg, iter, ifs, 0⟩] scope pos) spos) (zka i wi fr g tt te) := by
 intro pins s σ H D I h;rw [exec_Assign_Name_used _ _ _ _ hsw];refine Qq (wpAny_standAt (Qq ?_));show wpAny _ (xU (CXq P w) P w K mg base N qual scope0 f cd A outer s0 H0 E).A (do let _ <- comprehension (.ListComp elt [⟨tg, iter, ifs, 0⟩] scope pos) scope (xU (CXq P w) P w K mg base N qual scope0 f cd A outer s0 H0 E).env _ (newList []) false (eval iter (xU (CXq P w) P w K mg base N qual scope0 f cd A outer s0 H0 E).env) (some (assign (.Name y py) (xU (CXq P w) P w K mg base N qual scope0 f cd A outer s0 H0 E).env))) _ _ s;refine Qq (thn (wpAny_comprehension_free (use := some (assign (.Name y py) (xU (CXq P w) P w K mg base N qual scope0 f cd A outer s0 H0 E).env)) (Q := fun _ s' => SP (xU (CXq P w) P w K mg base N qual scope0 f cd A outer s0 H0 E) pins D .next s') rfl hs (gX (c.has I.ok)) c.kind c.names
  (thn (hi pins s σ H _ I h) fun v s1 h1 => thn h1 fun itv s2 h2 => ?_)) fun _ s' hq => Qr (Qr hq))
 obtain ⟨it, fp, tn, J, H2, e, I2, T, st2, f2, W, hW, h0⟩ := h2;subst e;refine zjs (EX := E) c rfl I2 T st2 f2 hg ht he hW h0 (fun D C pins' σ' H1 s1 e s' hD hC hDC z1 z2 => ?_) ?_
 ·exact zvj I2 f2 hC z1 z2
 rintro B C ys H' s' J3 ⟨m, hm⟩ ⟨f0, f1, _, f3, f4, f5⟩ nD fi;show wpAny _ (xU (CXq P w) P w K mg base N qual scope0 f cd A outer s0 H0 E).A (assign (.Name y py) (xU (CXq P w) P w K mg base N qual scope0 f cd A outer s0 H0 E).env (.ref B)) _ _ s';refine wpAny_assign_Name (zbk J3 hN hi' hy (show RelV (.ref B) (.ref B) from rfl) (fun s4 J4 ⟨a, sb, ha⟩ => ?_) hf);have nCa : C ≠ a := by
  rcases ha with z | z
  ·rw [z]; exact f1
  ·exact fun q => f4 y a z q.symm
 exact ⟨m, hm.sameBut sb nCa, fun h'' sb2 => ⟨_, _, J4.turned (t' := s4.toks) (it := C) (fun b o hb e => sb2.extBut b o hb e) f0 f1 f3 f4 f5, fi B nD⟩⟩
end
end L2
namespace L2
open PySem PySem.Spec PyProof.Rows PySem.Builtin PySem.Builtin.Str
section
variable {X : Cx}
end
end L2
namespace L2
open PySem PySem.Spec PyProof.Rows
section
variable {X : Cx}
end
section
variable {X : Cx} {pins : List (Addr × Obj)} {σ : St} {H : Hp} {s : Shared} {d : Addr} {kvs : zFr}
end
section
variable {X : Cx} {o : Expr} {to : TE} {apos cpos : Pos}
end
end L2
namespace L2
open PySem PySem.Spec PyProof.Rows PySem.W
section
variable {P : Program} {w : World} {K : PySem.W.Frag} {mg : Str -> Option Value} {base : Heap} {k : Nat} {x : Str} {ps : List Str} {sp : Sp}
end
section
variable {X : Cx}
end
end L2
namespace L2
open PySem PySem.Spec PyProof.Rows
section
variable {X : Cx}
end
theorem vT : fillsNumberSlot (.type "tuple") "mul" = pure false :=
 PySem.fillsNumberSlot_seq (id := "tuple.__mul__") (r := some (.builtin "tuple.__rmul__")) F.slot_tuple_mul.lookup (by decide +kernel) F.slot_tuple_rmul.lookup (by decide +kernel)
theorem jL : seqRepeat? (.type "tuple") = pure (some (.builtin "tuple.__mul__")) := by
 unfold seqRepeat?;rw [PySem.seqSlot_of (T := "tuple") (name := "__mul__") (id := "tuple.__mul__") F.slot_tuple_mul.lookup (by decide +kernel), PySem.seqSlot_of (T := "tuple") (name := "__rmul__") (id := "tuple.__rmul__") F.slot_tuple_rmul.lookup (by decide +kernel)];rfl
theorem jM (a : Int) (t : Tok) (l : Addr) (items : Array Value) (n : Nat) (dd : Option Addr) (sl : Array (Option Value)) :
  Meets (Builtin.«int.__rmul__» ⟨[.int a t, .ref l], []⟩) (fun _ R s => s.heap.get? l = some { cls := .type "tuple", dict := dd, data := .seq items n, slots := sl } /\ R (.ok (.ret Value.notImplemented)) s) :=
 .of_wp fun prog w A R s h => by obtain ⟨hp, g, d, tk, os⟩ := s; obtain ⟨hl, h⟩ := h; wp_walk using wpAny_loadPart' hl; exact ⟨_, rfl, h⟩
theorem zlt (l : Addr) (items : Array Value) (n : Nat) (dd : Option Addr) (sl : Array (Option Value)) (x : Int) (u : Tok) (hc0 : items.isEmpty = false) (h2 : 2 <= x) (hx : x < 2 ^ 63) (hsz : items.size * x.toNat <= sizeLine) :
  Meets (Builtin.«tuple.__mul__» ⟨[.ref l, .int x u], []⟩) (fun _ R s => s.heap.get? l = some { cls := .type "tuple", dict := dd, data := .seq items n, slots := sl } /\ R (.ok (.ret (Value.ref s.heap.objs.size))) { s with heap := s.heap.push { cls := Value.type "tuple", data := Data.seq (List.foldl (fun x1 x2 => x1 ++ x2) #[] (List.replicate x.toNat items)) }, toks := s.toks }) :=
 .of_wp fun prog w A R s h => by
  obtain ⟨hp, g, d, tk, os⟩ := s;obtain ⟨hl, h⟩ := h;have f1 := AutoSeq1.idx_int;have f2 := AutoSeq1.sub_tuple_tuple;have g1 : (decide (x < -(2 ^ 63)) || decide (x >= 2 ^ 63)) = false := by simp; lia
  have g2 : (items.isEmpty || x == 1) = false := by rw [hc0]; simp; lia
  have g3 : (decide (x <= 0) || items.isEmpty) = false := by rw [hc0]; simp; lia
  have sx : (items.size : Int) * x <= (sizeLine : Int) := by
   have e : x = (x.toNat : Int) := by lia
   rw [e]
   exact_mod_cast hsz
  have g4 : ¬ ((items.size : Int) * x > (2 ^ 63 - 1) / 8) := by
   have : (sizeLine : Int) <= (2 ^ 63 - 1) / 8 := by decide
   lia
  have g5 : Builtin.Tuple.tupleTooMany ((items.size : Int) * x) = false := by
   unfold Builtin.Tuple.tupleTooMany;exact Qv (by lia)
  have hj : (List.foldl (fun x1 x2 => x1 ++ x2) #[] (List.replicate x.toNat items)).size <= sizeLine := by
   rw [AutoListH.size_joined, Array.size_empty, Nat.zero_add, Nat.mul_comm];exact hsz
  wp_walk using wpAny_loadPart' hl
  refine wpAny_ite_false (by rw [g1]; rfl) ?_
  wp_walk using wpAny_loadPart' hl
  refine wpAny_ite_false (by rw [g2]; rfl) ?_
  wp_walk using wpAny_loadPart' hl
  refine wpAny_ite_false (by rw [g3]; rfl) ?_
  wp_walk using wpAny_loadPart' hl
  refine wpAny_ite_false (Qv g4) ?_
  wp_walk using wpAny_loadPart' hl
  exact ⟨_, rfl, h⟩
section
variable {X : Cx}
def zGr (K : PySem.W.Frag) : R2 := fun x y H Q => ∃ a k xs, x = .ref a /\ y = .int k /\ SqT K H a xs /\ xs ≠ [] /\ 2 <= k /\ k < 2 ^ 63 /\ xs.length * k.toNat <= sizeLine /\ ∀ p, H p = none -> Q (.ref p) (upd H p (.tup (List.replicate k.toNat xs).flatten))
theorem zzb : OpR X (binaryOp .Mult) (zGr X.K) := by
 intro pins s σ H x y v u Q I rx ry h;obtain ⟨a, k, xs, rfl, rfl, ha, hx, h1, h2, hz, q⟩ := h;cases rx
 obtain ⟨t, rfl⟩ := ry;obtain ⟨its, r1, p1, _⟩ := I.tuple ha;obtain ⟨⟨cls, dd, data, sl⟩, ho, hc, n, hd⟩ := id p1;simp only at hc hd;subst hc hd;have hl := r1.length;have hlen : its.toArray.size * k.toNat <= sizeLine := by rw [Q4, <- hl]; exact hz
 have he : its.toArray.isEmpty = false := by
  cases r1 with
  | nil => exact absurd rfl hx
  | cons _ _ => simp
 have hnew : List.foldl (fun x1 x2 => x1 ++ x2) #[] (List.replicate k.toNat its.toArray) = (List.replicate k.toNat its).flatten.toArray := by
  have := zgj its k.toNat [];rw [List.nil_append] at this;exact this
 refine wpAny_binaryOp_repeat_ref (T := "tuple") (U := "int") (by decide) ⟨_, ho, rfl⟩ (fun s' => typeIs_int s' k t) vT F.fills_int_mul F.slot_int_rmul jL F.slot_int_index.lookup
  (call_meets F.slot_int_rmul (typeIs_int s k t) F.entry_int_rmul (F.args_int_rmul_2 _ _) (jM k t a its.toArray n dd sl)
   ⟨ho, rfl, ⟨_, ho, rfl⟩, call_meets F.slot_tuple_mul ⟨_, ho, rfl⟩ F.entry_tuple_mul (F.args_tuple_mul_2 _ _) (zlt a its.toArray n dd sl k t he h1 h2 hlen) ⟨ho, ?_⟩⟩)
 rw [hnew];refine ⟨.ref s.heap.objs.size, _, I.laid (t' := s.toks) (o := .tup (List.replicate k.toNat xs).flatten) (fun b ob q => Qz _ q) (Qx _) ?_, rfl, q _ (I.hok.fresh (Qx _))⟩;exact ⟨by rw [zzp, Nat.mul_comm]; exact hz, _, r1.rep k.toNat, IsTup.new _ _⟩
end
theorem zac {X : Cx} {e : Expr} {t u : TE} (h1 : PE X e t) (h2 : PE X e u) : PE X e (fun σ H Q => t σ H Q \/ u σ H Q) := fun pins s σ H Q I h => h.elim (h1 pins s σ H Q I) (h2 pins s σ H Q I)
end L2
namespace L2
open PySem PySem.Spec PyProof.Rows PySem.W
section
variable {X : Cx}
end
end L2
namespace L2
open PySem PySem.Spec PyProof.Rows
section
variable {prog : Program} {w : World} {A : Around} {E : Value -> Shared -> Prop} {s : Shared} {a : Addr} {led : Bool} {ns : List Int}
end
--T3
section
variable {prog : Program} {w : World} {A : Around} {R : Result -> Shared -> Prop} {I : Addr} {fp wr : List Addr} {G : Array GenState -> Array GenState -> Prop} {n : Nat} {P : Nat -> Value -> Prop} {St : Nat -> Shared -> Prop}
end
section
variable {prog : Program} {w : World} {A : Around} {E : Value -> Shared -> Prop} {s : Shared}
end
section
variable {prog : Program} {w : World} {A : Around} {E : Value -> Shared -> Prop} {s : Shared} {a : Addr}
end
section
variable {X : Cx}
end
end L2
namespace L2
open PySem PySem.Spec PyProof.Rows PySem.W
section
variable {P : Program} {w : World} {K : PySem.W.Frag} {mg : Str -> Option Value} {base : Heap} {k : Nat} {x : Str} {ps : List Str} {sp : Sp}
end
end L2
namespace L2
open PySem PySem.Spec PyProof.Rows
abbrev zJj := List (Key × V)
section
variable {X : Cx} {pins : List (Addr × Obj)} {σ : St} {H : Hp} {s : Shared} {d : Addr} {kvs : zJj}
end
section
variable {X : Cx} {o : Expr} {to : TE} {apos cpos : Pos}
end
end L2
namespace L2
open PySem PySem.W PyProof.Rows
section
variable {prog : Program} {w : World} {A : Around} {E : Value -> Shared -> Prop} {s : Shared}
end
section
variable {X : Cx}
end
end L2
namespace L2
open PySem PySem.W PySem.Spec PyProof.Rows
section
variable {X : Cx}
end
section
variable {prog : Program} {w : World} {A : Around} {E : Value -> Shared -> Prop} {s : Shared}
end
end L2
namespace L2
open PySem PySem.W PySem.Spec PyProof.Rows
section
variable {X : Cx} {pos : Pos} {k v : Expr} {tk tv : TE}
end
section
variable {prog : Program} {w : World} {A : Around} {E : Value -> Shared -> Prop} {s : Shared}
end
section
variable {X : Cx}
end
end L2
namespace L2
open PySem PySem.Spec PyProof.Rows
section
variable {X : Cx} {st : Stmt} {rest : List Stmt} {t u : TS}
end
end L2
namespace L2
open PySem PySem.Spec PyProof.Rows PySem.W
section
variable {prog : Program} {w : World} {A : Around} {E : Value -> Shared -> Prop} {s : Shared}
end
section
variable {X : Cx} {scope : Scope} {N' : List Str} {fr : List (Option Nat)} {pins : List (Addr × Obj)} {σ : St} {H : Hp} {s : Shared} {fp : List Addr} {it : Addr} {tn : Nat -> Heap -> Prop} {J : It}
 {elt tg iter : Expr} {ifs : List Expr} {g : TG} {tt : TT} {te : TE} {pos : Pos} {fin : List V -> Hp -> Prop} {W : Nat -> Nat -> List V -> St -> Hp -> Prop} {RR : Value -> Addr -> Result -> Shared -> Prop} {E : Value -> Shared -> Prop}
end
section
variable {X : Cx} {tg : Expr}
end
section
variable {X : Cx}
end
end L2
namespace L2
open PySem PySem.Spec PyProof.Rows PySem.W
section
variable {X : Cx}
end
end L2
namespace L2
open PySem PySem.Spec PyProof.Rows PySem.W
def xF (c : Nat) : Nat -> List Nat -> List Nat -> List (List Nat)
 | _, cur, [] => [cur]
 | 0, cur, x :: xs => [cur ++ x :: xs]
 | k + 1, cur, x :: xs => if x = c then cur :: xF c k [] xs else xF c (k + 1) (cur ++ [x]) xs
theorem qN (c : Nat) : ∀ (cur l : List Nat), xF c 0 cur l = [cur ++ l]
 | cur, [] => by show [cur] = _; rw [Jp]
 | _, _ :: _ => rfl
theorem jO (c : Nat) : ∀ (k : Nat) (l cur : List Nat), (xF c k cur l).length <= k + 1
 | 0, l, cur => by rw [qN]; exact Qx _
 | k + 1, [], cur => by show 1 <= k + 1 + 1; lia
 | k + 1, x :: xs, cur => by
  show (if x = c then cur :: xF c k [] xs else xF c (k + 1) (cur ++ [x]) xs).length <= _;split
  ·have := jO c k xs [];rw [Q1];lia
  ·exact jO c (k + 1) xs _
theorem zbo (c : Nat) (S : Array Nat) : ∀ (l pre : List Nat) (k a : Nat) (cur : List Nat), S.toList = pre ++ l -> a <= pre.length -> (S.toList.drop a).take (pre.length - a) = cur ->
  ((a :: ((y8 c pre.length l).take k).map (· + 1)).zip ((y8 c pre.length l).take k ++ [S.size])).map (fun p => (S.extract p.1 p.2).toList) = xF c k cur l
 | l, pre, 0, a, cur, hS, ha, hc => by
  have hz : S.size = (pre ++ l).length := by rw [<- Array.length_toList, hS]
  rw [List.take_zero, qN];show [(S.extract a S.size).toList] = [cur ++ l];rw [zfo, hz];congr 1;have h1 : S.toList.drop a = pre.drop a ++ l := by rw [hS, List.drop_append_of_le_length ha]
  have h2 : cur = pre.drop a := by rw [<- hc, h1, List.take_append_of_le_length (by rw [List.length_drop]; lia), Jh (by rw [List.length_drop]; lia)]
  rw [h1, h2, Jh (by rw [Ql, Ql, List.length_drop]; lia)]
 | [], pre, k + 1, a, cur, hS, ha, hc => by
  have hz : S.size = pre.length := by rw [<- Array.length_toList, hS]; simp
  show [(S.extract a S.size).toList] = [cur];rw [zfo, hz, hc]
 | x :: xs, pre, k + 1, a, cur, hS, ha, hc => by
  have hS' : S.toList = (pre ++ [x]) ++ xs := by rw [hS]; simp
  have hl : (pre ++ [x]).length = pre.length + 1 := by simp
  by_cases hx : x = c
  ·have e1 : y8 c pre.length (x :: xs) = pre.length :: y8 c (pre.length + 1) xs := by show (if x = c then _ else _) = _; rw [if_pos hx]
   have e2 : xF c (k + 1) cur (x :: xs) = cur :: xF c k [] xs := by show (if x = c then _ else _) = _; rw [if_pos hx]
   rw [e1, e2, List.take_succ_cons];have ih := zbo c S xs (pre ++ [x]) k (pre.length + 1) [] hS' (by simp) (by rw [hl]; simp);rw [hl] at ih;show (S.extract a pre.length).toList :: _ = _;rw [zfo, hc];congr 1
  ·have e1 : y8 c pre.length (x :: xs) = y8 c (pre.length + 1) xs := by show (if x = c then _ else _) = _; rw [if_neg hx]
   have e2 : xF c (k + 1) cur (x :: xs) = xF c (k + 1) (cur ++ [x]) xs := by show (if x = c then _ else _) = _; rw [if_neg hx]
   rw [e1, e2];have hc' : (S.toList.drop a).take ((pre ++ [x]).length - a) = cur ++ [x] := by
    rw [hl, show pre.length + 1 - a = (pre.length - a) + 1 by lia, List.take_add_one, hc];congr 1;rw [Wq, show a + (pre.length - a) = pre.length by lia, hS];simp
   have ih := zbo c S xs (pre ++ [x]) (k + 1) a (cur ++ [x]) hS' (by lia) hc';rw [hl] at ih;exact ih
theorem kT (x : Str) (c lim : Nat) : ∀ (l : List Nat) (k : Nat) (acc : Array Nat) (free : Nat), x.cps.toList.drop k = l -> k + l.length = x.length -> acc.size <= lim -> free <= k ->
  (forIn (List.range' k (l.length + 1)) (acc, free) (StrLaws.occBody x ⟨#[c]⟩ x.length lim)).run.fst.toList = acc.toList ++ (y8 c k l).take (lim - acc.size)
 | [], k, acc, free, hd, hl, ha, hf => by
  have hk : ¬ (k + (⟨#[c]⟩ : Str).length <= x.length) := by show ¬ (k + 1 <= x.length); simp at hl; lia
  rw [show List.range' k (([] : List Nat).length + 1) = [k] from rfl];rw [Wg];unfold StrLaws.occBody;rw [if_neg (fun h => hk h.1.2)];simp [y8]
 | y :: ys, k, acc, free, hd, hl, ha, hf => by
  have hy : x.cps.toList[k]? = some y := by
   have := congrArg (fun l => l[0]?) hd
   simpa [Wq] using this
  have hd' : x.cps.toList.drop (k + 1) = ys := by
   have := congrArg List.tail hd
   simpa [List.tail_drop] using this
  have hl' : k + 1 + ys.length = x.length := by simp at hl; lia
  rw [show List.range' k ((y :: ys).length + 1) = k :: List.range' (k + 1) (ys.length + 1) from rfl];rw [Wg];have hlen : k + (⟨#[c]⟩ : Str).length <= x.length := by show k + 1 <= x.length; lia
  by_cases e : y = c
  ·have e1 : y8 c k (y :: ys) = k :: y8 c (k + 1) ys := by show (if y = c then _ else _) = _; rw [if_pos e]
   rw [e1];by_cases hs : acc.size < lim
   ·have hb : StrLaws.occBody x ⟨#[c]⟩ x.length lim k (acc, free) = pure (ForInStep.yield (acc.push k, k + 1)) := by
     unfold StrLaws.occBody;rw [if_pos ⟨⟨⟨hs, hf⟩, hlen⟩, by rw [zax, hy, e]; simp⟩];rfl
    rw [hb];have ih := kT x c lim ys (k + 1) (acc.push k) (k + 1) hd' hl' (by rw [Array.size_push]; lia) (Qx _);refine Eq.trans ih ?_;rw [Array.size_push, show lim - acc.size = (lim - (acc.size + 1)) + 1 by lia, List.take_succ_cons];simp
   ·have hb : StrLaws.occBody x ⟨#[c]⟩ x.length lim k (acc, free) = pure (ForInStep.yield (acc, free)) := by
     unfold StrLaws.occBody;rw [if_neg (fun h => hs h.1.1.1)]
    rw [hb];have ih := kT x c lim ys (k + 1) acc free hd' hl' ha (by lia);refine Eq.trans ih ?_;rw [show lim - acc.size = 0 by lia];simp
  ·have hb : StrLaws.occBody x ⟨#[c]⟩ x.length lim k (acc, free) = pure (ForInStep.yield (acc, free)) := by
    unfold StrLaws.occBody;rw [if_neg (fun h => by have := h.2; rw [zax, hy] at this; simp at this; exact e this)]
   rw [hb];have ih := kT x c lim ys (k + 1) acc free hd' hl' ha (by lia);have e1 : y8 c k (y :: ys) = y8 c (k + 1) ys := by show (if y = c then _ else _) = _; rw [if_neg e]
   rw [e1];exact ih
theorem zqg (x : Str) (c lim : Nat) : Builtin.Str.occurrences x ⟨#[c]⟩ 0 x.length lim = (y8 c 0 x.cps.toList).take lim := by
 rw [StrLaws.occ_eq];have hl : 0 + x.cps.toList.length = x.length := by show 0 + x.cps.toList.length = x.cps.size; simp
 have h := kT x c lim x.cps.toList 0 #[] 0 (by simp) hl (Jw _) (Qx _);have e : x.cps.toList.length + 1 = x.length + 1 - 0 := by lia
 rw [e] at h
 simpa using h
theorem zji (x : Str) (c k : Nat) : Builtin.Str.partsBetween x ((y8 c 0 x.cps.toList).take k) 1 = (xF c k [] x.cps.toList).map mkS := by
 have h := zbo c x.cps x.cps.toList [] k 0 [] (by simp) (Qx _) rfl;rw [<- h];unfold Builtin.Str.partsBetween;simp only [Jt];apply List.map_congr_left;rintro ⟨i, j⟩ _;show (⟨x.cps.extract i j⟩ : Str) = mkS (x.cps.extract i j).toList;exact (qV ⟨x.cps.extract i j⟩).symm
section
variable {X : Cx}
def zyq : V -> List V -> Hp -> VK -> Prop := fun x vs H Q => ∃ (z : Str) (c : Nat), x = .str z /\ vs = [.str ⟨#[c]⟩, .int 2] /\ c < 256 /\ z.length < 1000 /\ ∀ p, H p = none -> Q (.ref p) (upd H p (.lst ((xF c 2 [] z.cps.toList).map fun l => V.str (mkS l))))
theorem zqj : MtR X "str.split" zyq := by
 intro pins s σ H x xs v us Q I rx r h;obtain ⟨z, c, rfl, rfl, hc, hz, q⟩ := h;obtain ⟨t, rfl⟩ := rx;obtain ⟨u, u2, rfl, ru, ru2⟩ := Vals.two r;obtain ⟨t', rfl⟩ := ru;obtain ⟨t2, rfl⟩ := ru2;have zl : z.length <= sizeLine := Qc (Qu hz) (by decide);have hn : (xF c 2 [] z.cps.toList).length <= sizeLine := Qc (jO c 2 _ _) (by decide);have fr : H s.heap.objs.size = none := I.hok.fresh (Qx _);have fin : ∀ (l : List (Str × Tok)) (tk : Nat), l.map (·.1) = (xF c 2 [] z.cps.toList).map mkS -> EP X pins σ Q (.ref s.heap.objs.size) { s with heap := s.heap.push { cls := .type "list", data := .seq (strValues l).toArray }, toks := tk } := fun l tk e => by
  have el : (l.map fun p => V.str p.1) = (xF c 2 [] z.cps.toList).map fun l => V.str (mkS l) := by
   have := congrArg (List.map V.str) e
   simpa [Jt, Function.comp_def] using this
  have rv := zbj l;rw [el] at rv;refine ⟨.ref s.heap.objs.size, upd H s.heap.objs.size (.lst ((xF c 2 [] z.cps.toList).map fun l => V.str (mkS l))), I.laid (fun b o e => Qz _ e) (Qx _) ?_, rfl, q _ fr⟩;exact ⟨by rw [Qj]; exact hn, _, 0, rv, Qh _ rfl⟩
 have e0 : Builtin.Str.occurrences z ⟨#[c]⟩ 0 z.length (limitOf z 2) = (y8 c 0 z.cps.toList).take 2 := zqg z c 2;have e1 := zji z c 2;by_cases h1 : (decide (z.length < (⟨#[c]⟩ : Str).length) || decide (Builtin.Str.strKind z < Builtin.Str.strKind ⟨#[c]⟩)) = true
 ·have zn : z.cps.toList = [] := by
   rw [Bool.or_eq_true, decide_eq_true_eq, decide_eq_true_eq, zkr hc] at h1;rcases h1 with h1 | h1
   ·have : z.length < 1 := h1;have e : z.cps.toList.length = z.length := by show _ = z.cps.size; simp
    exact List.eq_nil_of_length_eq_zero (by rw [e]; lia)
   ·exact absurd (zow z) (by lia)
  refine call_meets F.slot_str_split (typeIs_str _ _ _) F.entry_str_split (F.args_str_split_3 _ _ _) (meets_str_split_max_cannot_occur z ⟨#[c]⟩ 2 t t' t2 rfl h1) ?_;refine fin [(z, t)] _ ?_;rw [zn];show [z] = [mkS []];rw [<- qV z, zn]
 ·have h1' := Ww.mpr h1;have hy : ((⟨#[c]⟩ : Str).length == 0) = false := rfl;cases hf : (Builtin.Str.occurrences z ⟨#[c]⟩ 0 z.length (limitOf z 2)).isEmpty with
  | true =>
   refine call_meets F.slot_str_split (typeIs_str _ _ _) F.entry_str_split (F.args_str_split_3 _ _ _) (meets_str_split_max_not_found z ⟨#[c]⟩ 2 t t' t2 rfl h1' hy hf) ?_;refine fin [(z, t)] _ ?_;rw [e0] at hf;have hcut := List.isEmpty_iff.mp hf;rw [<- e1, hcut];show [z] = [Builtin.Str.strSub z 0 z.length];unfold Builtin.Str.strSub;congr 1;cases z
   simp [Str.length]
  | false =>
   refine call_meets F.slot_str_split (typeIs_str _ _ _) F.entry_str_split (F.args_str_split_3 _ _ _) (meets_str_split_sep_max z ⟨#[c]⟩ 2 t t' t2 rfl h1' hy hf zl (by rw [e0]; show (Builtin.Str.partsBetween z _ 1).length <= _; rw [e1, Qj]; exact hn)) ?_;rw [strsFrom_eq];refine fin (numbered s.toks _) _ ?_;rw [numbered_texts, e0];exact e1
def zyh (x : Str) (n : Nat) : Str := ⟨(List.replicate n x.cps).foldl (· ++ ·) #[]⟩
theorem zgk (l : Array Nat) : ∀ (n : Nat) (a : Array Nat), ((List.replicate n l).foldl (· ++ ·) a).size = a.size + n * l.size
 | 0, a => by simp
 | n + 1, a => by rw [Jb, List.foldl_cons, zgk l n, Array.size_append, Nat.add_mul]; lia
theorem zze : OpR X (binaryOp .Mult) (fun x y H Q => ∃ (z : Str) (n : Nat), x = .str z /\ y = .int n /\ 2 <= n /\ n <= 100 /\ 1 <= z.length /\ z.length <= 100 /\ Q (.str (zyh z n)) H) := by
 intro pins s σ H x y v u Q I rx ry h;obtain ⟨z, n, rfl, rfl, n2, n1, z1, z2, q⟩ := h;obtain ⟨t, rfl⟩ := rx;obtain ⟨t', rfl⟩ := ry;have c1 : ¬ ((n : Int) < 1) := by lia
 have c2 : ((n : Int) == 1 || z.length == 0) = false := by
  rw [Bool.or_eq_false_iff];exact ⟨beq_eq_false_iff_ne.mpr (by lia), beq_eq_false_iff_ne.mpr (by lia)⟩
 refine P.mul_str (n := (n : Int)) ?_ (fun _ _ => ?_) (fun _ _ => ?_) ?_
 ·rw [Bool.or_eq_false_iff];exact ⟨Qv (by lia), Qv (by lia)⟩
 ·have hn : (0 : Int) < (n : Int) := by lia
  have h1 : (100 : Int) <= (2 ^ 63 - 1) / (n : Int) := by
   rw [Int.le_ediv_iff_mul_le hn];have : (100 : Int) * n <= 10000 := by lia
   exact Int.le_trans this (by decide)
  lia
 ·have : z.length * n <= 100 * 100 := Nat.mul_le_mul z2 n1;rw [Jx];exact Qv (by have := sizeLine_eq; lia)
 ·rw [if_neg c1, if_neg (by rw [c2]; decide), Jx];refine ⟨?_, .str (zyh z n), H, I.tok _, ⟨_, rfl⟩, q⟩;show ((List.replicate n z.cps).foldl (· ++ ·) #[]).size <= sizeLine;rw [zgk];have : n * z.length <= 100 * 100 := Nat.mul_le_mul n1 z2;have e : z.cps.size = z.length := rfl;have := sizeLine_eq;rw [e, Array.size_empty];lia
theorem zlu (l : Addr) (items : Array Value) (n : Nat) (dd : Option Addr) (sl : Array (Option Value)) (x : Int) (u : Tok) (hx : x = 1) :
  Meets (Builtin.«tuple.__mul__» ⟨[.ref l, .int x u], []⟩) (fun _ R s => s.heap.get? l = some { cls := .type "tuple", dict := dd, data := .seq items n, slots := sl } /\ R (.ok (.ret (Value.ref l))) s) :=
 .of_wp fun prog w A R s h => by
  obtain ⟨hp, g, d, tk, os⟩ := s;obtain ⟨hl, h⟩ := h;have f1 := AutoSeq1.idx_int;have f2 := AutoSeq1.sub_tuple_tuple;have g1 : (decide (x < -(2 ^ 63)) || decide (x >= 2 ^ 63)) = false := by rw [hx]; rfl
  have g2 : (items.isEmpty || x == 1) = true := by rw [hx]; simp
  wp_walk using wpAny_loadPart' hl
  exact ⟨_, rfl, h⟩
theorem zlv (l : Addr) (items : Array Value) (n : Nat) (dd : Option Addr) (sl : Array (Option Value)) (x : Int) (u : Tok) (hc0 : items.isEmpty = false) (h2 : x <= 0) (hx : -1000 <= x) :
  Meets (Builtin.«tuple.__mul__» ⟨[.ref l, .int x u], []⟩) (fun _ R s => s.heap.get? l = some { cls := .type "tuple", dict := dd, data := .seq items n, slots := sl } /\ R (.ok (.ret (Value.ref s.heap.objs.size))) { s with heap := s.heap.push { cls := Value.type "tuple", data := Data.seq #[] }, toks := s.toks }) :=
 .of_wp fun prog w A R s h => by
  obtain ⟨hp, g, d, tk, os⟩ := s;obtain ⟨hl, h⟩ := h;have f1 := AutoSeq1.idx_int;have f2 := AutoSeq1.sub_tuple_tuple;have g1 : (decide (x < -(2 ^ 63)) || decide (x >= 2 ^ 63)) = false := by simp; lia
  have g2 : (items.isEmpty || x == 1) = false := by rw [hc0]; simp; lia
  have g3 : (decide (x <= 0) || items.isEmpty) = true := by rw [hc0]; simp; lia
  wp_walk using wpAny_loadPart' hl
  refine wpAny_ite_false (by rw [g1]; rfl) ?_
  wp_walk using wpAny_loadPart' hl
  refine wpAny_ite_false (by rw [g2]; rfl) ?_
  wp_walk using wpAny_loadPart' hl
  exact ⟨_, rfl, h⟩
def zBu (K : Frag) : R2 := fun x y H Q => ∃ a k v, x = .ref a /\ y = .int k /\ SqT K H a [v] /\ -1000 <= k /\ k <= 1000 /\ ∀ p H', Same H H' -> SqT K H' p (List.replicate k.toNat v) -> Q (.ref p) H'
theorem zzc : OpR X (binaryOp .Mult) (zBu X.K) := by
 intro pins s σ H x y v u Q I rx ry h;obtain ⟨a, k, w, rfl, rfl, ha, h1, h2, q⟩ := h;by_cases c2 : 2 <= k
 ·refine zzb pins s σ H _ _ v u Q I rx ry ⟨a, k, [w], rfl, rfl, ha, by simp, c2, by lia, ?_, fun p hp => q p _ (Same.new hp) (SqT.of ?_)⟩
  ·rw [List.length_singleton, Nat.one_mul];exact Qc (show k.toNat <= 1000 by lia) (by decide)
  ·rw [zB];congr 2;generalize k.toNat = m
   induction m with
   | zero => rfl
   | succ m ih => rw [Jb, List.flatten_cons, Jb, <- ih]; rfl
 ·cases rx
  obtain ⟨t, rfl⟩ := ry;obtain ⟨its, r1, p1, _⟩ := I.tuple ha;obtain ⟨⟨cls, dd, data, sl⟩, ho, hc, n, hd⟩ := id p1;simp only at hc hd;subst hc hd;have he : its.toArray.isEmpty = false := by
   cases r1 with
   | cons _ _ => simp
  by_cases c1 : k = 1
  ·subst c1;refine wpAny_binaryOp_repeat_ref (T := "tuple") (U := "int") (by decide) ⟨_, ho, rfl⟩ (fun s' => typeIs_int s' 1 t) vT F.fills_int_mul F.slot_int_rmul jL F.slot_int_index.lookup
    (call_meets F.slot_int_rmul (typeIs_int s 1 t) F.entry_int_rmul (F.args_int_rmul_2 _ _) (jM 1 t a its.toArray n dd sl)
     ⟨ho, rfl, ⟨_, ho, rfl⟩, call_meets F.slot_tuple_mul ⟨_, ho, rfl⟩ F.entry_tuple_mul (F.args_tuple_mul_2 _ _) (zlu a its.toArray n dd sl 1 t rfl) ⟨ho, ?_⟩⟩)
   exact ⟨.ref a, H, I, rfl, q a H (Same.refl H) ha⟩
  ·refine wpAny_binaryOp_repeat_ref (T := "tuple") (U := "int") (by decide) ⟨_, ho, rfl⟩ (fun s' => typeIs_int s' k t) vT F.fills_int_mul F.slot_int_rmul jL F.slot_int_index.lookup
    (call_meets F.slot_int_rmul (typeIs_int s k t) F.entry_int_rmul (F.args_int_rmul_2 _ _) (jM k t a its.toArray n dd sl)
     ⟨ho, rfl, ⟨_, ho, rfl⟩, call_meets F.slot_tuple_mul ⟨_, ho, rfl⟩ F.entry_tuple_mul (F.args_tuple_mul_2 _ _) (zlv a its.toArray n dd sl k t he (by lia) (by lia)) ⟨ho, ?_⟩⟩)
   have fr := I.hok.fresh (Qx s.heap.objs.size);refine ⟨.ref s.heap.objs.size, _, I.laid (t' := s.toks) (o := .tup []) (fun b ob q => Qz _ q) (Qx _) ?_, rfl, q _ _ (Same.new fr) (SqT.of ?_)⟩
   ·exact ⟨Jw _, [], .nil, IsTup.new _ _⟩
   ·rw [zB, show k.toNat = 0 by lia];rfl
structure FD (K : Frag) (w : World) (a : Addr) : Prop where
 ex : ∃ es n, K.lookup a = some ⟨.type "dict", none, .dict es n, #[]⟩ /\ KeysLit w.params es.toList
 lo : (a == sysModules) = false
def zis (K : Frag) (w : World) (b : Bool) : R2 := fun x y H Q => ∃ z a r, x = .str z /\ y = .ref a /\ FD K w a /\ nsIn K a z = some r /\ Q (.bl (if b then !r.isSome else r.isSome)) H
theorem ztx : OpR X (compareOp .In) (zis X.K X.w false) := by
 intro pins s σ H x y v u Q I rx ry h;obtain ⟨z, a, r, rfl, rfl, D, e, q⟩ := h;obtain ⟨t, rfl⟩ := rx;cases (show u = Value.ref a from ry)
 obtain ⟨es, n, hl, hk⟩ := D.ex;refine wpAny_in_of (strKind_is X.prog X.w z t) D.lo (mapOf_K (prog := X.prog) I.kIn hl hk) ?_;rw [find_K hl e];exact ⟨.bl _, H, I.tok _, rfl, q⟩
theorem zjj : OpR X (compareOp .NotIn) (zis X.K X.w true) := by
 intro pins s σ H x y v u Q I rx ry h;obtain ⟨z, a, r, rfl, rfl, D, e, q⟩ := h;obtain ⟨t, rfl⟩ := rx;cases (show u = Value.ref a from ry)
 obtain ⟨es, n, hl, hk⟩ := D.ex;refine wpAny_notIn_of (strKind_is X.prog X.w z t) D.lo (mapOf_K (prog := X.prog) I.kIn hl hk) ?_;rw [find_K hl e];exact ⟨.bl _, H, I.tok _, rfl, q⟩
def zwi (K : Frag) (w : World) : R2 := fun x y H Q => ∃ a z r u, x = .ref a /\ y = .str z /\ FD K w a /\ nsIn K a z = some (some u) /\ RelV r u /\ Q r H
theorem zEc : IxR X (zwi X.K X.w) := by
 intro value slice pins s σ H x y v u Q I rx ry h hs;obtain ⟨a, z, r, ur, rfl, rfl, D, e, rr, q⟩ := h;cases (show v = Value.ref a from rx)
 obtain ⟨t, rfl⟩ := ry;obtain ⟨es, n, hl, hk⟩ := D.ex;have hm := mapOf_K (prog := X.prog) (w := X.w) I.kIn hl hk;exact tail_any hm.typeIs slot_dict_getitem.lookup (wpAny_getItem_of (strKind_is X.prog X.w z t) hm (find_K hl e) ⟨r, H, I.tok _, rr, q⟩) hs
def zFy (C : Addr) (m : Str) (sp : Sp) (to : TE) (ta : TA) : TSX := fun D DX σ H => to σ H fun x H1 => ∃ a dx fs, x = .ref a /\ H1 a = some (.ins C dx fs) /\ fs.lookup m = none /\ ta σ H1 fun vs H2 => sp (x :: vs) H2 (fun _ H' => D.nx σ H') (DX σ)
theorem ztp {C f : Addr} {m : Str} {k : Nat} {fd : FuncData} {ps : List Str} {sp : Sp} {o e : Expr} {es : List Expr} {to : TE} {ta : TA} {apos pos epos : Pos} {pl : Sem Bool} (ho : PE X o to) (c : Cls X.K C) (hm : znd X.K C m f) (F : v9 X.prog X.w X.K X.mg X.base (CXq X.prog X.w) k f fd ps sp) (hr : Room k X.A) (hb : Binds X.K fd ps []) (ha : PA X (e :: es) ta) (hxe : ∀ e s, X.xe e s -> False)
  (hst : starEach (e :: es) X.env = (false, eval e X.env) :: starEach es X.env := by rfl) (hpl : (backTo pos (starEach es X.env)).any (·.1) = false := by rfl)
  (ht : eval (.Call (.Attribute o m apos) (e :: es) [] pos) X.env = (do
   let ov <- eval o X.env
   standAt apos.atName
   let (f, first) <- holding [ov] (getMethod ov m pl)
   callWith pos f first (backTo pos (starEach (e :: es) X.env)) (backToKw pos (keywordEach [] X.env))) := by rfl)
  (hs : swapsWith (.Call (.Attribute o m apos) (e :: es) [] pos) none epos.line X.env = pure false := by rfl) : PXQ X (.Expr (.Call (.Attribute o m apos) (e :: es) [] pos) epos) (zFy C m sp to ta) := by
 intro pins s σ H D0 DX I h;refine wpAny_Expr_any (thn (Q := EP X pins σ fun _ H' => D0.nx σ H') ?_ fun v s1 ⟨x, H1, I1, r1, q1⟩ => ⟨σ, H1, I1, q1⟩) I.quiet hs;refine PySem.W.methodCall_KW (pl := pl) (wpAny_mono (ho pins s σ H _ I h) (fun u s1 ⟨x, H1, I1, rx, a, dx, fs, ex, ea, l, q⟩ => ?_) fun _ _ z => (hxe _ _ z).elim) ht;subst ex;obtain rfl : u = Value.ref a := rx;refine zdz I1 ea c hm l ?_;refine PySem.W.callWith_K (first := [.ref a]) (h₀ := X.base) I.ok.mod.kin hm.kp (wpAny_mono (ha pos pins s1 σ H1 _ I1 q) (fun us s2 ⟨vs, H2, I2, r, q2⟩ => ⟨I2.kIn, ?_⟩) fun _ _ z => (hxe _ _ z).elim) hst hpl;have r2 : Vals (.ref a :: vs) (.ref a :: us) := .cons rfl r;have hl : (Value.ref a :: us).length = ps.length := by rw [<- r2.length]; exact F.len _ _ _ _ q2
 have hb2 := hb s2 (Value.ref a :: us) I2.kIn (by rw [Jp]; exact hl);rw [Jp] at hb2;refine wpAny_call (codeAny_mono (F.run X.A X.stack s2 H2 ⟨Value.ref a :: us, []⟩ (Value.ref a :: us) (.ref a :: vs) _ _ hr I2.env0 hb2 r2 q2) fun r s' hq => ?_);cases r with
 | ok fl =>
  cases fl with
  | ret u => exact I2.after hq
  | next => exact False.elim hq
  | brk => exact False.elim hq
  | cont => exact False.elim hq
 | error ev => exact ⟨σ, H2, s2, I2, hq⟩
end
end L2
namespace My
open PySem L2
def top (i : Nat) : Stmt := PySem.Challenge.pw_manycounts_k92_desk_refused.main.body.getD i (.Pass ⟨0, 0, 0, 0⟩)
abbrev zFb : Stmt := top 4
abbrev zFa : Stmt := top 11
abbrev zxk : Stmt := top 86
abbrev zao : Stmt := top 18
abbrev zdj : Stmt := top 19
abbrev zrw : Stmt := top 23
abbrev zrv : Stmt := top 24
abbrev gE : Stmt := top 25
abbrev zij : Stmt := top 26
abbrev zmb : Stmt := top 27
abbrev zig : Stmt := top 28
abbrev zBq : Stmt := top 48
abbrev zdq : Stmt := top 53
abbrev zdp : Stmt := top 56
abbrev zdl : Stmt := top 58
abbrev zdr : Stmt := top 59
abbrev zaz : Stmt := top 60
abbrev zim : Stmt := top 61
abbrev zih : Stmt := top 62
abbrev zez : Stmt := top 63
abbrev ziq : Stmt := top 64
abbrev zry : Stmt := top 66
abbrev zir : Stmt := top 67
abbrev zak : Stmt := top 71
abbrev zam : Stmt := top 72
abbrev zan : Stmt := top 73
abbrev qO : Stmt := top 74
abbrev zif : Stmt := top 87
abbrev zsa : Stmt := top 88
abbrev zsb : Stmt := top 89
abbrev zio : Stmt := top 90
abbrev zdo : Stmt := top 91
abbrev zdn : Stmt := top 92
abbrev zdm : Stmt := top 93
abbrev zdk : Stmt := top 94
abbrev sAt : Stmt := top 97
abbrev zrz : Stmt := top 98
abbrev zik : Stmt := top 99
abbrev zrx : Stmt := top 100
abbrev zil : Stmt := top 101
abbrev zii : Stmt := top 102
abbrev zin : Stmt := top 103
abbrev zBr : Stmt := top 104
abbrev zal : Stmt := top 105
abbrev zBp : Stmt := top 106
abbrev zmc : Stmt := top 107
abbrev gB : Stmt := zbd zFb 0
abbrev qU : Stmt := zbd zFa 0
abbrev gF : Stmt := zbd zxk 0
abbrev zkh : Stmt := zbd zxk 1
abbrev jG : Stmt := zbd zxk 2
def xN (c : Nat) : Bool := decide (48 <= c) && decide (c <= 57)
theorem zpd (c : Nat) : decide (c ∈ (("0123456789" : Str).cps.toList)) = xN c := by
 have e : ("0123456789" : Str).cps.toList = [48, 49, 50, 51, 52, 53, 54, 55, 56, 57] := by decide +kernel
 rw [e];unfold xN;rw [<- Bool.decide_and];refine decide_eq_decide.mpr ?_;simp only [Qy, Ju, or_false];omega
def num : List Nat -> Option Int
 | [a] => if xN a = true then some ((a : Int) - 48) else none
 | [a, b] => if (xN a && xN b && !(a == 48)) = true then some (10 * ((a : Int) - 48) + ((b : Int) - 48)) else none
 | _ => none
theorem gM {c : Nat} (h : xN c = true) : 48 <= c /\ c <= 57 := by
 unfold xN at h
 simpa using h
theorem zzs {a : Nat} (h : xN a = true) : PySem.intText? (mkS [a]) = some ((a : Int) - 48) := by
 obtain ⟨h1, h2⟩ := gM h;have : ∀ k : Fin 10, PySem.intText? (mkS [k.val + 48]) = some ((k.val : Int)) := by decide +kernel
 have z := this ⟨a - 48, by omega⟩;dsimp only at z;have e : a - 48 + 48 = a := by omega
 rw [e] at z;rw [z];congr 1;omega
theorem zzr {a b : Nat} (h : xN a = true) (h' : xN b = true) : PySem.intText? (mkS [a, b]) = some (10 * ((a : Int) - 48) + ((b : Int) - 48)) := by
 obtain ⟨h1, h2⟩ := gM h;obtain ⟨h3, h4⟩ := gM h';have : ∀ k l : Fin 10, PySem.intText? (mkS [k.val + 48, l.val + 48]) = some (10 * (k.val : Int) + (l.val : Int)) := by decide +kernel
 have z := this ⟨a - 48, by omega⟩ ⟨b - 48, by omega⟩;dsimp only at z;have e : a - 48 + 48 = a := by omega
 have e' : b - 48 + 48 = b := by omega
 rw [e, e'] at z;rw [z];congr 1;omega
theorem zor {w : List Nat} {n : Int} (h : num w = some n) : 0 <= n /\ n <= 99 := by
 unfold num at h;split at h
 ·split at h
  ·rename_i a hf
   obtain ⟨h1, h2⟩ := gM hf;cases h
   omega
  ·cases h
 ·split at h
  ·rename_i a b hf
   simp only [Qm] at hf;obtain ⟨⟨f1, f2⟩, _⟩ := hf;obtain ⟨h1, h2⟩ := gM f1;obtain ⟨h3, h4⟩ := gM f2;cases h
   omega
  ·cases h
 ·cases h
def vO (w : List Nat) : Option (Int × Int) := match zL 45 [] w with
 | [a, b] => match num a, num b with
  | some i, some j => some (i, j)
  | _, _ => none
 | _ => none
def wV : List (List Nat) -> Option (List (Int × Int))
 | [] => some []
 | w :: r => match vO w, wV r with
  | some p, some ps => some (p :: ps)
  | _, _ => none
inductive Res where
 | text | web | many | tie (k : Nat) | ok (n : Int) (ps : List (Int × Int))
 deriving DecidableEq
def zdt (p : Int × Int) : Int × Int := (min p.1 p.2, max p.1 p.2)
def zco (n : Int) : List (Int × Int) -> Option Nat
 | [] => none
 | p :: r => if decide (p.1 < n) && decide (p.2 < n) then (zco n r).map (· + 1) else some 0
def made (n : Int) (ps : List (Int × Int)) : Res := if decide (1 <= n) && decide (n <= 9) then (if ps.length <= 8 then (match zco n ps with | some k => .tie k | none => .ok n (ps.map zdt)) else .many) else .web
def behind (ws : List (List Nat)) : Option (List (Int × Int)) := match ws with
 | [] :: r => wV r
 | _ => none
def zat (z : List Nat) : Res := match zL 58 [] z with
 | [a, b] => match num a, behind (zL 32 [] b) with
  | some n, some ps => made n ps
  | _, _ => .text
 | _ => .text
def TieAt (H : Hp) (v : V) (p : Int × Int) : Prop := ∃ a, v = .ref a /\ H a = some (.tup [.int p.1, .int p.2])
theorem TieAt.same {H H' : Hp} {v : V} {p : Int × Int} (h : TieAt H v p) (e : Same H H') : TieAt H' v p := let ⟨a, h1, h2⟩ := h; ⟨a, h1, e _ _ h2⟩
theorem xG {H H' : Hp} {xs : List V} {ps : List (Int × Int)} (h : Paired (TieAt H) xs ps) (e : Same H H') : Paired (TieAt H') xs ps := L2.Paired.mapP h fun _ _ q => q.same e
def vD (p : Int × Int) : Int × Int := if p.1 <= p.2 then (p.1, p.2) else (p.2, p.1)
structure WebAt (H : Hp) (w : V) (n : Int) (ps : List (Int × Int)) : Prop where
 ex : ∃ c d xs, w = .ref c /\ H c = some (.tup [.int n, .ref d]) /\ H d = some (.tup xs) /\ Paired (TieAt H) xs ps
theorem WebAt.same {H H' : Hp} {w : V} {n : Int} {ps : List (Int × Int)} (h : WebAt H w n ps) (e : Same H H') : WebAt H' w n ps := by
 obtain ⟨c, d, xs, h1, h2, h3, h4⟩ := h.ex;exact ⟨c, d, xs, h1, e _ _ h2, e _ _ h3, xG h4 e⟩
structure Txt (K : W.Frag) (mg : Str -> Option Value) : Prop where
 isi : mg "isinstance" = none
 int : mg "int" = none
 bool : mg "bool" = none
 len : mg "len" = none
 tuple : mg "tuple" = none
 all : mg "all" = none
 list : mg "list" = none
 min : mg "min" = none
 max : mg "max" = none
 range : mg "range" = none
 set : mg "set" = none
 sorted : mg "sorted" = none
 enum : mg "enumerate" = none
 zip : mg "zip" = none
 str : mg "str" = none
 any : mg "any" = none
 sum : mg "sum" = none
 mp : ∃ t, mg "MOST_POINTS" = some (.int 9 t)
 mt : ∃ t, mg "MOST_TIES" = some (.int 8 t)
theorem yY : bootBuiltins "isinstance" = some (.builtin "isinstance") := by first | rfl | decide +kernel
theorem zbx : bootBuiltins "int" = some (.type "int") := by first | rfl | decide +kernel
theorem zmy : bootBuiltins "bool" = some (.type "bool") := by first | rfl | decide +kernel
theorem wD : bootBuiltins "tuple" = some (.type "tuple") := by first | rfl | decide +kernel
theorem gZ : bootBuiltins "list" = some (.type "list") := by first | rfl | decide +kernel
theorem jD : bootBuiltins "all" = some (.builtin "all") := by first | rfl | decide +kernel
theorem zrq : bootBuiltins "min" = some (.builtin "min") := by first | rfl | decide +kernel
theorem zbw : bootBuiltins "max" = some (.builtin "max") := by first | rfl | decide +kernel
theorem zhd : bootBuiltins "sorted" = some (.builtin "sorted") := by first | rfl | decide +kernel
def InN (n : Int) (p : Int × Int) : Prop := 0 <= p.1 /\ p.1 < n /\ 0 <= p.2 /\ p.2 < n
theorem zbe (ns : List Int) (lo hi : Option Int) : ∃ ms : List Int, zhy (ns.map V.int) lo hi = ms.map V.int /\ ms.length <= ns.length := by
 refine ⟨(ns.drop (HT.sIx (ns.map V.int).length 0 lo)).take (HT.sIx (ns.map V.int).length (ns.map V.int).length hi - HT.sIx (ns.map V.int).length 0 lo), ?_, ?_⟩
 ·unfold zhy;rw [List.map_take, List.map_drop]
 ·rw [Jm, List.length_drop]; lia
theorem qS : bootBuiltins "range" = some (.type "range") := by first | rfl | decide +kernel
def ups (n : Int) : List Int := (List.range n.toNat).map fun (i : Nat) => (i : Int)
theorem znv (n : Nat) : upN n = (ups n).map V.int := by
 unfold upN ups;rw [Jt, Jx];rfl
theorem xY (n : Int) : (ups n).length = n.toNat := by unfold ups; simp
theorem mem_ups {n i : Int} : i ∈ ups n ↔ 0 <= i /\ i < n := by
 unfold ups;rw [Wy];constructor
 ·rintro ⟨j, hj, rfl⟩;have := Jl.mp hj;omega
 ·rintro ⟨a, b⟩;exact ⟨i.toNat, Jl.mpr (by omega), by omega⟩
theorem zjx {j : Int} (h : 0 <= j) : ups (j + 1) = ups j ++ [j] := by
 unfold ups;rw [show (j + 1).toNat = j.toNat + 1 by omega, List.range_succ, Qp];simp;exact Int.max_eq_left h
theorem zvt (n : Int) : (ups n).Pairwise (· < ·) := by
 unfold ups;rw [List.pairwise_map];exact List.pairwise_lt_range.imp fun h => by omega
def at0 (l : List Int) (i : Int) : Int := l.getD i.toNat 0
def kG (ps : List (Int × Int)) (k : Int) : Int × Int := ps.getD k.toNat (0, 0)
theorem zxc {l : List Int} {i : Int} (h0 : 0 <= i) (hl : i < l.length) : atI (l.map V.int) i = some (.int (at0 l i)) := by
 obtain ⟨j, rfl⟩ := Q0 h0;have hj : j < l.length := by omega
 refine zJ ?_;unfold at0;simp [List.getD, hj]
theorem zns {H : Hp} {xs : List V} {ps : List (Int × Int)} (h : Paired (TieAt H) xs ps) {k : Int} (h0 : 0 <= k) (hl : k < ps.length) : ∃ c, atI xs k = some (.ref c) /\ H c = some (.tup [.int (kG ps k).1, .int (kG ps k).2]) := by
 obtain ⟨j, rfl⟩ := Q0 h0;have xl := Paired.length h;have hj : j < xs.length := by omega
 obtain ⟨p, e1, c, e2, e3⟩ := Paired.at h (show xs[j]? = some xs[j] by simp [hj]);refine ⟨c, zJ (by rw [List.getElem?_eq_getElem hj, e2]), ?_⟩;have : kG ps (j : Int) = p := by
  unfold kG;rw [Jx, Wj, e1];rfl
 rw [this];exact e3
def qH (n : Int) (ps : List (Int × Int)) : Prop := (1 <= n /\ n <= 9) /\ (∀ p ∈ ps, InN n p) /\ ps.length <= 8
theorem qI {n : Nat} (h : n <= 10) : n < sizeLine := Jv h (by decide)
theorem gJ {n : Nat} (h : n <= 100) : n < sizeLine := Jv h (by decide)
theorem wO {H H2 : Hp} {g : Addr} {o : HO} (s : Same H H2) (h : H g = none) : Same H (upd H2 g o) := fun b u e => by rw [zS (yD e h)]; exact s b u e
theorem xP {H H' : Hp} {l : Addr} (s : Same H H') (h : H' l = none) : H l = none := by
 cases e : H l with
 | none => rfl
 | some o => exact absurd (s _ _ e) (by rw [h]; intro z; cases z)
theorem kM {ks : List Int} {i : Nat} {x : V} (hx : (ks.map V.int)[i]? = some x) : ∃ k, ks[i]? = some k /\ V.int k = x := by
 rw [Q8] at hx;cases e : ks[i]? with
 | none => rw [e] at hx; simp at hx
 | some k => rw [e] at hx; simp at hx; exact ⟨k, rfl, hx⟩
def zFl (kd : Kd) (K : W.Frag) : R2 := fun x y H Q => ∃ p xs i v, x = .ref p /\ y = .int i /\ SqK kd K H p xs /\ atI xs i = some v /\ Q v H
theorem zCe {X : Cx} (kd : Kd) : IxR X (zFl kd X.K) := by
 cases kd with
 | l => exact L2.ix_list
 | t => exact L2.ix_tup
theorem zue (p : Int × Int) : (if p.2 < p.1 then p.2 else p.1) = (vD p).1 /\ (if p.2 > p.1 then p.2 else p.1) = (vD p).2 := by
 unfold vD;by_cases h : p.1 <= p.2
 ·simp only [h, if_true];constructor <;> (split <;> omega)
 ·simp only [h, if_false];constructor <;> (split <;> omega)
theorem zzl {p : Int × Int} (h : p.1 <= p.2) : vD p = p := by unfold vD; rw [if_pos h]
theorem zzk (p : Int × Int) : (vD p).1 <= (vD p).2 := by unfold vD; split <;> simp only <;> omega
theorem zmg (p : Int × Int) : (vD p).1 = p.1 /\ (vD p).2 = p.2 \/ (vD p).1 = p.2 /\ (vD p).2 = p.1 := by
 unfold vD;split
 ·exact .inl ⟨rfl, rfl⟩
 ·exact .inr ⟨rfl, rfl⟩
def zvw : Sp := fun vs H Q _ => ∃ (wv : V) (n : Int) (ps : List (Int × Int)), vs = [wv] /\ WebAt H wv n ps /\ ps.length <= 8 /\ ∀ t H', Same H H' -> H' t = some (.tup ((ups ps.length).map V.int)) -> Q (.ref t) H'
def Ks (m : Nat) (ks : List Int) : Prop := ∀ k ∈ ks, 0 <= k /\ k < (m : Int)
section
variable {P : Program} {w : World} {K : W.Frag} {mg : Str -> Option Value} {base : Heap}
theorem zIs : zR ["web"] ["web"] (zH zig) := ⟨rfl, rfl, rfl, by decide +kernel, rfl, by decide +kernel, by decide +kernel⟩
theorem zJe (T : Txt K mg) (S : Src K mg "whole_pick" zig ["web"]) : Def P w K mg base 1 "whole_pick" ["web"] zvw := by
 refine S.def zIs (fun vs H Q E h => ?_) (fun f cdv A outer s H vs Q E hr h => ?_)
 ·obtain ⟨i, _, _, rfl, _⟩ := h; rfl
 ·obtain ⟨wv, n, ps, rfl, W, hl8, q⟩ := h;obtain ⟨c, d, xs, rfl, hc, hd, ht⟩ := W.ex;have xl : xs.length = ps.length := Paired.length ht;refine ⟨_, zG (zV (yG (zde rfl) rfl T.tuple wD (zA (yG qQ rfl T.range qS (zA (zM (xT K) (by rfl) T.len PySem.boot_len (zA (zT (zY K) (pv 0) zF (fun _ _ => rfl)) zC)) zC)) zC))), ?_⟩;have i1 : atI ([.int n, .ref d] : List V) 1 = some (.ref d) := zJ (j := 1) rfl;refine ⟨_, rfl, c, _, _, _, rfl, rfl, SqT.of hc, i1, d, xs, rfl, .inr (SqT.of hd), _, rfl, fun p hp => ⟨p, xs.length, rfl, zB, by omega, fun l hl => ?_⟩⟩;refine q l _ ((Same.new hp).trans (Same.new hl)) ?_;rw [zB, znv, xl]
end
def gL : V -> Bool
 | .int _ => true
 | _ => false
def xD (lo hi : Int) : V -> Bool
 | .int i => decide (lo <= i) && decide (i <= hi)
 | _ => false
def Plain (K : W.Frag) (H : Hp) (x : V) : Prop := ∃ t, gO K H x t /\ ∀ C, t ≠ .ref C
theorem vG (K : W.Frag) (H : Hp) (i : Int) : Plain K H (.int i) := ⟨_, .int i, fun _ z => nomatch z⟩
theorem zqn {K : W.Frag} {H : Hp} {x : V} {t : Value} (h : gO K H x t) (hn : ∀ C, t ≠ .ref C) :
  (PySem.W.kitOne K t (.type "int") = some false /\ gL x = false) \/ (PySem.W.kitOne K t (.type "int") = some true /\ ∃ b, PySem.W.kitOne K t (.type "bool") = some b /\ gL x = !b) := by
 cases h with
 | non => exact .inl ⟨by first | rfl | decide +kernel, rfl⟩
 | bl b => exact .inr ⟨by first | rfl | decide +kernel, true, by rfl, rfl⟩
 | int i => exact .inr ⟨by rfl, false, by first | rfl | decide +kernel, rfl⟩
 | str x => exact .inl ⟨by first | rfl | decide +kernel, rfl⟩
 | flt x => exact .inl ⟨by first | rfl | decide +kernel, rfl⟩
 | lst e => exact .inl ⟨by first | rfl | decide +kernel, rfl⟩
 | frz e => exact .inl ⟨by first | rfl | decide +kernel, rfl⟩
 | tup e => exact .inl ⟨by first | rfl | decide +kernel, rfl⟩
 | dK e => exact .inl ⟨by first | rfl | decide +kernel, rfl⟩
 | dT e => exact .inl ⟨by first | rfl | decide +kernel, rfl⟩
 | ins => exact absurd rfl (hn _)
def zhf (K : W.Frag) : Sp := fun vs H Q _ => ∃ x, vs = [x] /\ Plain K H x /\ Q (.bl (gL x)) H
def jE (K : W.Frag) : Sp := fun vs H Q _ => ∃ x lo hi, vs = [x, .int lo, .int hi] /\ Plain K H x /\ Q (.bl (xD lo hi x)) H
theorem Plain.same {K : W.Frag} {H H' : Hp} {x : V} (h : Plain K H x) (s : Same H H') : Plain K H' x := by
 obtain ⟨t, ht, hn⟩ := h;refine ⟨t, ?_, hn⟩;cases ht with
 | non => exact .non
 | bl b => exact .bl b
 | int i => exact .int i
 | str x => exact .str x
 | flt x => exact .flt x
 | lst e => exact .lst (s _ _ e)
 | frz e => exact .frz (s _ _ e)
 | tup e => exact .tup (s _ _ e)
 | dK e => exact .dK (s _ _ e)
 | dT e => exact .dT (s _ _ e)
 | ins => exact absurd rfl (hn _)
section
variable {P : Program} {w : World} {K : W.Frag} {mg : Str -> Option Value} {base : Heap}
theorem zsz : zR ["thing"] ["thing"] (zH zao) := ⟨rfl, rfl, rfl, by decide +kernel, rfl, by decide +kernel, by decide +kernel⟩
theorem zuy (T : Txt K mg) (S : Src K mg "is_whole" zao ["thing"]) : Def P w K mg base 1 "is_whole" ["thing"] (zhf K) := by
 refine S.def zsz (fun vs H Q E h => ?_) (fun f cdv A outer s H vs Q E hr h => ?_)
 ·obtain ⟨x, rfl, _⟩ := h; rfl
 ·obtain ⟨x, rfl, ⟨t, ty, hn⟩, q⟩ := h;refine ⟨_, zG (zV (znl (zM (jC K) (by rfl) T.isi yY (zA (pv 0) (zA (gH (v := .ty "int") rfl T.int zbx rfl) zC)))
   (zfe (zwk (zM (jC K) (by rfl) T.isi yY (zA (pv 0) (zA (gH (v := .ty "bool") rfl T.bool zmy rfl) zC))))))), ?_⟩
  rcases zqn ty hn with ⟨e1, e2⟩ | ⟨e1, b, e2, e3⟩
  ·rw [e2] at q;exact ⟨_, rfl, _, _, _, _, _, rfl, rfl, ty, e1, _, rfl, yR q⟩
  ·rw [e3] at q;exact ⟨_, rfl, _, _, _, _, _, rfl, rfl, ty, e1, _, rfl, xK ⟨_, rfl, _, _, _, _, _, rfl, rfl, ty, e2, _, rfl, q⟩⟩
theorem zpv : zR ["thing", "least", "greatest"] ["thing", "least", "greatest"] (zH zdj) := ⟨rfl, rfl, rfl, by decide +kernel, rfl, by decide +kernel, by decide +kernel⟩
theorem zrd (T : Txt K mg) (S : Src K mg "is_whole_within" zdj ["thing", "least", "greatest"]) (D : Def P w K mg base 1 "is_whole" ["thing"] (zhf K)) : Def P w K mg base 2 "is_whole_within" ["thing", "least", "greatest"] (jE K) := by
 refine S.def zpv (fun vs H Q E h => ?_) (fun f cdv A outer s H vs Q E hr h => ?_)
 ·obtain ⟨x, lo, hi, rfl, _⟩ := h; rfl
 ·obtain ⟨x, lo, hi, rfl, hp, q⟩ := h;refine ⟨_, zG (zV (znl (yC D hr rfl (zA (pv 0) zC)) (zfe (zko zds zds (pv 1) (pv 0) (pv 2))))), ?_⟩;refine ⟨_, rfl, _, rfl, hp, _, rfl, ?_⟩;cases hw : gL x with
  | false =>
   have e : xD lo hi x = false := by cases x <;> first | rfl | (simp [gL] at hw)
   rw [e] at q;exact yR q
  | true =>
   obtain ⟨i, rfl⟩ : ∃ i, x = .int i := by cases x <;> first | exact ⟨_, rfl⟩ | (simp [gL] at hw)
   refine xK ⟨_, rfl, _, rfl, _, _, rfl, rfl, _, rfl, ?_⟩;have e : xD lo hi (.int i) = (decide (lo <= i) && decide (i <= hi)) := rfl;rw [e] at q;cases h1 : decide (lo <= i) with
   | false => rw [h1] at q; exact yR q
   | true => rw [h1] at q; exact xK ⟨_, rfl, _, _, rfl, rfl, q⟩
end
theorem zqo {K : W.Frag} {H : Hp} {x : V} {t : Value} (h : gO K H x t) (hn : ∀ C, t ≠ .ref C) :
  (PySem.W.kitOne K t (.type "tuple") = some false /\ t ≠ .type "tuple") \/ (PySem.W.kitOne K t (.type "tuple") = some true /\ ∃ a xs, x = .ref a /\ H a = some (.tup xs)) := by
 cases h with
 | non => exact .inl ⟨by first | rfl | decide +kernel, by decide +kernel⟩
 | bl b => exact .inl ⟨by first | rfl | decide +kernel, by decide +kernel⟩
 | int i => exact .inl ⟨by first | rfl | decide +kernel, by decide +kernel⟩
 | str x => exact .inl ⟨by first | rfl | decide +kernel, by decide +kernel⟩
 | flt x => exact .inl ⟨by first | rfl | decide +kernel, by decide +kernel⟩
 | lst e => exact .inl ⟨by first | rfl | decide +kernel, by decide +kernel⟩
 | frz e => exact .inl ⟨by first | rfl | decide +kernel, by decide +kernel⟩
 | tup e => exact .inr ⟨by rfl, _, _, rfl, e⟩
 | dK e => exact .inl ⟨by first | rfl | decide +kernel, by decide +kernel⟩
 | dT e => exact .inl ⟨by first | rfl | decide +kernel, by decide +kernel⟩
 | ins => exact absurd rfl (hn _)
inductive zav (K : W.Frag) (H : Hp) (n : Int) : V -> Bool -> Prop
 | no {x : V} {t : Value} (h : gO K H x t) (hr : ∀ C, t ≠ .ref C) (ht : t ≠ .type "tuple") : zav K H n x false
 | len {a : Addr} {xs : List V} (h : H a = some (.tup xs)) (hl : xs.length ≠ 2) : zav K H n (.ref a) false
 | two {a : Addr} {x y : V} (h : H a = some (.tup [x, y])) (hx : Plain K H x) (hy : Plain K H y) : zav K H n (.ref a) (xD 0 (n - 1) x && xD 0 (n - 1) y)
def zwa (K : W.Frag) : Sp := fun vs H Q _ => ∃ x n b, vs = [x, .int n] /\ zav K H n x b /\ ∀ H', Same H H' -> Q (.bl b) H'
def zkf : Sp := fun vs H Q _ => ∃ a b, vs = [.int a, .int b] /\ ∀ c, H c = none -> Q (.ref c) (upd H c (.tup [.int (vD (a, b)).1, .int (vD (a, b)).2]))
section
variable {P : Program} {w : World} {K : W.Frag} {mg : Str -> Option Value} {base : Heap}
theorem ztd : zR ["a", "b"] ["a", "b"] (zH gE) := ⟨rfl, rfl, rfl, by decide +kernel, rfl, by decide +kernel, by decide +kernel⟩
theorem zve (S : Src K mg "lesser_first" gE ["a", "b"]) : Def P w K mg base 1 "lesser_first" ["a", "b"] zkf := by
 refine S.def ztd (fun vs H Q E h => ?_) (fun f cdv A outer s H vs Q E hr h => ?_)
 ·obtain ⟨a, b, rfl, _⟩ := h; rfl
 ·obtain ⟨a, b, rfl, q⟩ := h;refine ⟨_, zG (zV (qK (zP zds (pv 0) (pv 1) (yA _)) (wH (zA (pv 0) (zA (pv 1) zC))) (wH (zA (pv 1) (zA (pv 0) zC))))), ?_⟩;refine ⟨_, rfl, _, rfl, _, _, rfl, rfl, _, rfl, ?_⟩;by_cases hab : a <= b
  ·have e : vD (a, b) = (a, b) := by simp [vD, hab]
   rw [e] at q;rw [Qb hab];exact xK ⟨_, rfl, _, rfl, by show 2 <= sizeLine; decide, q⟩
  ·have e : vD (a, b) = (b, a) := by simp [vD, hab]
   rw [e] at q;rw [Qv hab];exact yR ⟨_, rfl, _, rfl, by show 2 <= sizeLine; decide, q⟩
theorem zDb : zR ["thing", "points"] ["thing", "points"] (zH zrv) := ⟨rfl, rfl, rfl, by decide +kernel, rfl, by decide +kernel, by decide +kernel⟩
theorem zvu {K : W.Frag} {H : Hp} {a : Addr} {xs : List V} (h : H a = some (.tup xs)) : gO K H (.ref a) (.type "tuple") := .tup h
theorem zox (K : W.Frag) : PySem.W.kitOne K (.type "tuple") (.type "tuple") = some true := by rfl
theorem zEm (T : Txt K mg) (S : Src K mg "is_pair_of_points" zrv ["thing", "points"]) (D : Def P w K mg base 2 "is_whole_within" ["thing", "least", "greatest"] (jE K)) : Def P w K mg base 3 "is_pair_of_points" ["thing", "points"] (zwa K) := by
 refine S.def zDb (fun vs H Q E h => ?_) (fun f cdv A outer s H vs Q E hr h => ?_)
 ·obtain ⟨x, n, b, rfl, _⟩ := h; rfl
 ·obtain ⟨x, n, b, rfl, hp, q⟩ := h;refine ⟨_, zD (yL (PW.pt (zit (vF (wG (zM (jC K) (by rfl) T.isi yY (zA (pv 0) (zA (gH (v := .ty "tuple") rfl T.tuple wD rfl) zC)))))
    (zcr (zP j6 (zM (xT K) (by rfl) T.len PySem.boot_len (zA (pv 0) zC)) zF (yA _))))) (zG (zV gT)) zQ)
   (zG (zV (zM (kO rfl) (by rfl) T.all jD (zA (wL (N' := ["end", "points"]) (fr := [none, some 1]) (yH (by rfl)) rfl (wK K .t (pv 0)) (fun _ _ _ _ => yE (i := 0) (show (["end", "points"] : List Str).Nodup by decide +kernel) rfl (Or.inl rfl) (Or.inr rfl)) (fun _ _ _ _ => yX)
    (fun _ _ _ _ => yC D hr rfl (zA (pv 0) (zA zF (zA (zN j5 (pv 1) zF) zC))))) zC)))), ?_⟩
  cases hp with
  | no ty hr' ht =>
   rcases zqo ty hr' with ⟨e1, _⟩ | ⟨_, a, xs, rfl, e⟩
   ·exact ⟨_, rfl, _, _, _, _, _, rfl, rfl, ty, e1, _, rfl, xK (xK (q H (Same.refl H)))⟩
   ·exfalso;cases ty with
    | tup _ => exact ht rfl
    | ins => exact hr' _ rfl
    | lst e' => rw [e] at e'; cases e'
    | frz e' => rw [e] at e'; cases e'
    | dK e' => rw [e] at e'; cases e'
    | dT e' => rw [e] at e'; cases e'
  | @len a xs h hl =>
   refine ⟨_, rfl, _, _, _, _, _, rfl, rfl, zvu h, zox K, _, rfl, yR ⟨_, rfl, _, _, rfl, .inr (SqT.of h), rfl, _, rfl, ?_⟩⟩;have e : (!decide (V.int (xs.length : Int) = V.int 2)) = true := by
    have : ¬ (V.int (xs.length : Int) = V.int 2) := fun z => by injection z with z; omega
    simp [this]
   rw [e];exact xK (q H (Same.refl H))
  | @two a x y h hx hy =>
   refine ⟨_, rfl, _, _, _, _, _, rfl, rfl, zvu h, zox K, _, rfl, yR ⟨_, rfl, _, _, rfl, .inr (SqT.of h), rfl, _, rfl, zmo rfl ?_⟩⟩;refine ⟨_, rfl, a, rfl, ⟨_, SqT.of h⟩, wY (k := .t) (a := a) (xs := [x, y]) (fun σ => ∃ v, σ = [v, some (.int n)]) (fun i ys H' => H' = H /\ ys = ([x, y].take i).map fun v => V.bl (xD 0 (n - 1) v)) ⟨_, rfl⟩ ⟨rfl, rfl⟩ (by show 2 < sizeLine; decide) ?_ ?_ ?_⟩
   ·rintro i ys H' _ ⟨rfl, _⟩;exact SqT.of h
   ·rintro i v ys σ H' N hv ⟨u, rfl⟩ ⟨rfl, rfl⟩ hN;have pl : Plain K H' v := by
     match i with
     | 0 => simp at hv; rw [<- hv]; exact hx
     | 1 => simp at hv; rw [<- hv]; exact hy
     | j + 2 => simp at hv
    dsimp only [xH, List.set];refine zaw ?_;refine ⟨_, rfl, _, rfl, _, _, rfl, rfl, _, _, _, rfl, pl, ?_⟩;refine hN _ _ _ ⟨_, rfl⟩ ⟨rfl, ?_⟩ (by simp);rw [zW hv, Qp];rfl
   ·rintro ys H' ⟨rfl, rfl⟩ p hp;refine ⟨p, [xD 0 (n - 1) x, xD 0 (n - 1) y], rfl, SqL.of zB, ?_⟩;have e : ([xD 0 (n - 1) x, xD 0 (n - 1) y].all id) = (xD 0 (n - 1) x && xD 0 (n - 1) y) := by simp
    rw [e];exact q _ (Same.new hp)
end
def dg (i : Int) : Nat := 48 + i.toNat
def vN (p : Int × Int) : List Nat := [dg p.1, 45, dg p.2]
def vP (n : Int) (ps : List (Int × Int)) : List Nat := [dg n, 58] ++ ps.flatMap fun p => 32 :: vN p
theorem ten {i : Int} (h0 : 0 <= i) (h9 : i <= 9) : i = 0 \/ i = 1 \/ i = 2 \/ i = 3 \/ i = 4 \/ i = 5 \/ i = 6 \/ i = 7 \/ i = 8 \/ i = 9 := by omega
theorem hV {i : Int} (h0 : 0 <= i) (h9 : i <= 9) : (Str.ofString (toString i)) = mkS [dg i] := by
 rcases ten h0 h9 with rfl | rfl | rfl | rfl | rfl | rfl | rfl | rfl | rfl | rfl <;> decide +kernel
theorem zae {i : Int} (h0 : 0 <= i) (h9 : i <= 9) : i.natAbs.log2 < 1920 := by
 rcases ten h0 h9 with rfl | rfl | rfl | rfl | rfl | rfl | rfl | rfl | rfl | rfl <;> decide +kernel
theorem j8 {i : Int} (h0 : 0 <= i) (h9 : i <= 9) : 48 <= dg i /\ dg i <= 57 := by unfold dg; omega
theorem zgi (c : Nat) : ∀ (h : List Nat) (ts : List (List Nat)), v3 c (h :: ts) = h ++ ts.flatMap fun t => c :: t
 | h, [] => by show h = _; simp
 | h, t :: ts => by
  show h ++ c :: v3 c (t :: ts) = _;rw [zgi c t ts];simp
theorem yK (l : List Nat) : (mkS l).cps.toList = l := by unfold mkS; simp
theorem zhe {a b : Str} (h : a.cps.toList = b.cps.toList) : a = b := by rw [<- qV a, <- qV b, h]
theorem zgt (a b : Str) : (a ++ b).cps.toList = a.cps.toList ++ b.cps.toList := by rw [PySem.Str.cps_append, Array.toList_append]
theorem zcu (a b : List Nat) : mkS a ++ mkS b = mkS (a ++ b) := zhe (by rw [zgt, yK, yK, yK])
theorem zdx (z : Str) : ∀ (ys : List Str), (Txt.join z ys).cps.toList = match ys with | [] => [] | y :: r => y.cps.toList ++ r.flatMap fun t => z.cps.toList ++ t.cps.toList
 | [] => by unfold Txt.join Builtin.Str.glued; rfl
 | y :: r => by
  unfold Txt.join Builtin.Str.glued;show (List.foldl (fun acc p => acc ++ z.cps ++ p.cps) y.cps r).toList = _;have key : ∀ (r : List Str) (a : Array Nat), (List.foldl (fun acc (p : Str) => acc ++ z.cps ++ p.cps) a r).toList = a.toList ++ r.flatMap fun t => z.cps.toList ++ t.cps.toList := by
   intro r
   induction r with
   | nil => intro a; simp
   | cons t r ih => intro a; rw [List.foldl_cons, ih]; simp
  exact key r y.cps
theorem zfx {p : Int × Int} {n : Int} (h : 0 <= p.1 /\ p.1 < n /\ 0 <= p.2 /\ p.2 < n) (n9 : n <= 9) : ∀ c ∈ vN p, c ≠ 58 /\ c ≠ 32 := by
 intro c hc;have a := j8 (i := p.1) (by omega) (by omega);have b := j8 (i := p.2) (by omega) (by omega);unfold vN at hc;simp at hc;rcases hc with rfl | rfl | rfl <;> omega
theorem zjg {n : Int} {ps : List (Int × Int)} (n1 : 1 <= n) (n9 : n <= 9) (h : ∀ p ∈ ps, 0 <= p.1 /\ p.1 < n /\ 0 <= p.2 /\ p.2 < n) :
  zL 58 [] (vP n ps) = [[dg n], ps.flatMap fun p => 32 :: vN p] := by
 have a := j8 (i := n) (by omega) n9;have e : vP n ps = [dg n] ++ 58 :: ps.flatMap fun p => 32 :: vN p := rfl;rw [e, jQ (by simp; omega), jP]
 ·rfl
 ·intro hm;obtain ⟨p, hp, hc⟩ := List.mem_flatMap.mp hm;rcases Qy.mp hc with z | z
  ·cases z
  ·exact (zfx (h p hp) n9 58 z).1 rfl
theorem zjh {n : Int} {ps : List (Int × Int)} (n9 : n <= 9) (h : ∀ p ∈ ps, 0 <= p.1 /\ p.1 < n /\ 0 <= p.2 /\ p.2 < n) :
  zL 32 [] (ps.flatMap fun p => 32 :: vN p) = [] :: ps.map vN := by
 have e : (ps.flatMap fun p => 32 :: vN p) = v3 32 ([] :: ps.map vN) := by
  rw [zgi, List.nil_append, List.flatMap_map]
 rw [e];refine kE (by simp) fun q hq => ?_;rcases Qy.mp hq with rfl | hq
 ·simp
 ·obtain ⟨p, hp, rfl⟩ := Wy.mp hq;exact fun hm => (zfx (h p hp) n9 32 hm).2 rfl
theorem zlz {p : Int × Int} {n : Int} (h : 0 <= p.1 /\ p.1 < n /\ 0 <= p.2 /\ p.2 < n) (n9 : n <= 9) : zL 45 [] (vN p) = [[dg p.1], [dg p.2]] := by
 have a := j8 (i := p.1) (by omega) (by omega);have b := j8 (i := p.2) (by omega) (by omega);have e : vN p = [dg p.1] ++ 45 :: [dg p.2] := rfl;rw [e, jQ (by simp; omega), jP (by simp; omega)];rfl
theorem zeg {n : Int} : ∀ {ps : List (Int × Int)}, (vP n ps).length = 2 + 4 * ps.length
 | [] => rfl
 | p :: ps => by
  have := zeg (n := n) (ps := ps);unfold vP at this ⊢;rw [List.flatMap_cons, Ql, Ql] at *;simp [vN] at this ⊢;omega
theorem yP (l : List Nat) : (mkS l).length = l.length := by show (l.toArray).size = _; simp
theorem kI (l : List Nat) : (mkS l).cps.size = l.length := by show (l.toArray).size = _; simp
theorem jB : (" " : Str) = mkS [32] := by decide +kernel
theorem zas : ("-" : Str) = mkS [45] := by decide +kernel
theorem zbq : (":" : Str) = mkS [58] := by decide +kernel
theorem lit_none : ("" : Str) = mkS [] := by decide +kernel
theorem zHd : ("0" : Str) = mkS [48] := by decide +kernel
theorem zhp {a b : List Nat} (h : mkS a = mkS b) : a = b := by rw [<- yK a, <- yK b, h]
theorem zho (a : Nat) : num [a] = if xN a = true then some ((a : Int) - 48) else none := rfl
theorem zhn (a b : Nat) : num [a, b] = if (xN a && xN b && !(a == 48)) = true then some (10 * ((a : Int) - 48) + ((b : Int) - 48)) else none := rfl
def Asc (w : List Nat) : Prop := (∀ c ∈ w, c < 128) /\ w.length <= 900
theorem Asc.all {w : List Nat} (h : Asc w) : (mkS w).cps.all (· < 128) = true := by
 rw [Array.all_eq_true'];intro c hc;have : c ∈ (mkS w).cps.toList := by simpa using hc
 rw [yK] at this
 simpa using h.1 c this
def znh (C : Addr) : Sp := fun vs H Q E => ∃ w : List Nat, vs = [.str (mkS w)] /\ Asc w /\ (∀ n H', num w = some n -> Same H H' -> Q (.int n) H') /\ (∀ H', num w = none -> Same H H' -> E (.ref C) none H')
section
variable {P : Program} {w : World} {K : W.Frag} {mg : Str -> Option Value} {base : Heap}
theorem zGn : zR ["word"] ["word"] (zH qO) := ⟨rfl, rfl, rfl, by decide +kernel, rfl, by decide +kernel, by decide +kernel⟩
theorem zEn {C : Addr} {bm : List Value} {tf : Tok} (T : Txt K mg) (fig : mg "FIGURES" = some (.str "0123456789" tf)) (hm : mg "NoText" = some (.ref C)) (hc : vH K C bm = true) (S : Src K mg "read_number" qO ["word"]) : y9 P w K mg base 1 "read_number" ["word"] (znh C) := by
 refine Src.defQ S zGn (fun vs H Q E h => ?_) (fun f cdv A outer s H vs Q E hr h => ?_)
 ·obtain ⟨i, rfl, _⟩ := h; rfl
 ·obtain ⟨l, rfl, as, q, qe⟩ := h;refine ⟨_, zD (yL (PW.pt (zit (zP vL (zM qA (by rfl) T.len PySem.boot_len (zA (pv 0) zC)) (wH (zA zF (zA zF zC))) rfl)
    (zcr (vF (wG (zM (kO rfl) (by rfl) T.all jD (zA (wL (N' := ["sign"]) (fr := [none]) (yH (by rfl)) rfl (znj (pv 0))
     (fun _ _ _ _ => yE (i := 0) (show (["sign"] : List Str).Nodup by decide +kernel) rfl (Or.inl rfl) (Or.inr rfl)) (fun _ _ _ _ => yX)
     (fun _ _ _ _ => vS zbp (pv 0) (yJ (v := .str "0123456789") rfl fig ⟨_, rfl⟩) rfl)) zC))))))) (zG (yO rfl hm hc (zA zE zC))) zQ)
   (zD (yL (PW.pt (hZ (zP wA (zM qA (by rfl) T.len PySem.boot_len (zA (pv 0) zC)) zF (yA _)) (zbb (zP wA (zT zwp (pv 0) zF (fun _ _ => rfl)) zE (yA _))))) (zG (yO rfl hm hc (zA zE zC))) zQ)
   (zG (zV (yG zgn rfl T.int zbx (zA (pv 0) zC))))), ?_⟩
  have L : (mkS l).length = l.length := yP _;refine ⟨_, rfl, _, rfl, by rw [L]; exact Qc as.2 (by decide), by show 2 <= sizeLine; decide, fun p hp => ⟨p, [.int 1, .int 2], rfl, .inr (SqT.of zB), rfl, rfl, _, rfl, ?_⟩⟩;rw [L];have s1 := Same.new (o := HO.tup [.int 1, .int 2]) hp;generalize upd H p (.tup [.int 1, .int 2]) = H1 at s1 ⊢;by_cases h12 : l.length = 1 \/ l.length = 2
  ·have hin : inV (.int (l.length : Int)) [.int 1, .int 2] = true := by
    rcases h12 with h | h <;> rw [h] <;> rfl
   rw [hin];refine yR ?_;refine ⟨_, rfl, _, rfl, as.all, zes (z := mkS l) (fun σ => ∃ v, σ = [v]) (fun j ys H' => H' = H1 /\ ys = (l.take j).map fun c => V.bl (xN c)) ⟨_, rfl⟩ ⟨rfl, rfl⟩ (by rw [kI]; exact Jv as.2 (by decide)) ?_ ?_⟩
   ·rintro j c ys σ H' N hc ⟨u, rfl⟩ ⟨rfl, rfl⟩ hN;dsimp only [xH, List.set];refine zaw ?_;have hc' : l[j]? = some c := by
     have : (mkS l).cps.toList[j]? = some c := by simpa using hc
     rwa [yK] at this
    refine ⟨_, rfl, _, _, rfl, rfl, ?_⟩;rw [StrLaws.found_one, zpd];refine hN _ _ _ ⟨_, rfl⟩ ⟨rfl, ?_⟩ (by simp);rw [zW hc', Qp];rfl
   ·rintro ys H' ⟨rfl, rfl⟩ r hr';rw [kI, Jz];refine ⟨r, l.map xN, rfl, SqL.of (by rw [zB, Jt]; rfl), ?_⟩;have s2 := Same.new (o := HO.lst (l.map fun c => V.bl (xN c))) hr';generalize upd H' r (HO.lst (l.map fun c => V.bl (xN c))) = H2 at s2 ⊢;refine ⟨_, rfl, ?_⟩;cases hf : (l.map xN).all id with
    | false =>
     refine xK ⟨by show 1 <= 100; decide, qe _ ?_ (s1.trans s2)⟩;rcases l with _ | ⟨a, _ | ⟨b, _ | ⟨c, r⟩⟩⟩
     ·rfl
     ·have h1 : xN a = false := by simpa using hf
      rw [zho, h1];rfl
     ·have h1 : (xN a && xN b) = false := by simpa using hf
      rw [zhn, h1];rfl
     ·rfl
    | true =>
     refine yR ?_;refine ⟨_, rfl, _, rfl, by rw [L]; exact Qc as.2 (by decide), rfl, _, rfl, ?_⟩;rw [L];rcases l with _ | ⟨a, _ | ⟨b, _ | ⟨c, r⟩⟩⟩
     ·rcases h12 with h | h <;> cases h
     ·have fa : xN a = true := by simpa using hf
      have e1 : decide (V.int (([a] : List Nat).length : Int) = V.int 2) = false := rfl;rw [e1];refine yR (yR ?_);refine ⟨_, rfl, _, _, rfl, zzs fa, by rw [yP]; show 1 <= 640; decide, q _ _ ?_ (s1.trans s2)⟩;rw [zho, if_pos fa]
     ·have fab : xN a = true /\ xN b = true := by simpa using hf
      have e1 : decide (V.int (([a, b] : List Nat).length : Int) = V.int 2) = true := rfl;rw [e1];refine xK ?_;refine ⟨_, rfl, _, _, a, rfl, rfl, by rw [yP]; show 2 <= sizeLine; decide, zJ (j := 0) rfl, rfl, _, rfl, ?_⟩;by_cases h0 : a = 48
      ·have e2 : decide (V.str ⟨#[a]⟩ = V.str "0") = true := by rw [h0]; decide +kernel
       rw [e2];refine xK ⟨by show 1 <= 100; decide, qe _ ?_ (s1.trans s2)⟩;rw [zhn, if_neg (by rw [h0]; simp)]
      ·have e2 : decide (V.str ⟨#[a]⟩ = V.str "0") = false := Qv fun z => by
        have z1 : (⟨#[a]⟩ : Str) = "0" := V.str.inj z;have z2 : mkS [a] = mkS [48] := z1.trans zHd;have z3 := zhp z2;simp at z3;exact h0 z3
       rw [e2];refine yR ?_;refine ⟨_, rfl, _, _, rfl, zzr fab.1 fab.2, by rw [yP]; show 2 <= 640; decide, q _ _ ?_ (s1.trans s2)⟩;rw [zhn, if_pos (by simp [fab.1, fab.2, h0])]
     ·rcases h12 with h | h <;> simp at h
  ·have hin : inV (.int (l.length : Int)) [.int 1, .int 2] = false := by
    show ((1 : Int) == (l.length : Int) || ((2 : Int) == (l.length : Int) || false)) = false;have n1 : ¬ ((1 : Int) = (l.length : Int)) := by lia
    have n2 : ¬ ((2 : Int) = (l.length : Int)) := by lia
    simp [n1, n2]
   rw [hin];refine xK (xK ⟨by show 1 <= 100; decide, qe _ ?_ s1⟩);rcases l with _ | ⟨a, _ | ⟨b, _ | ⟨c, r⟩⟩⟩
   ·rfl
   ·exact absurd (.inl rfl) h12
   ·exact absurd (.inr rfl) h12
   ·rfl
end
theorem gS {c : Nat} : ∀ {l cur : List Nat} {p : List Nat}, p ∈ zL c cur l -> ∀ x ∈ p, x ∈ cur \/ x ∈ l
 | [], cur, p, h, x, hx => by
  have e : p = cur := by simpa [zL] using h
  subst e;exact .inl hx
 | y :: r, cur, p, h, x, hx => by
  unfold zL at h;split at h
  ·rcases Qy.mp h with e | e
   ·subst e; exact .inl hx
   ·rcases gS e x hx with z | z
    ·cases z
    ·exact .inr (Qk _ z)
  ·rcases gS h x hx with z | z
   ·rcases Q5.mp z with z | z
    ·exact .inl z
    ·have : x = y := by simpa using z
     subst this;exact .inr Qg
   ·exact .inr (Qk _ z)
theorem zbl {c : Nat} : ∀ {l cur : List Nat} {p : List Nat}, p ∈ zL c cur l -> p.length <= cur.length + l.length
 | [], cur, p, h => by
  have e : p = cur := by simpa [zL] using h
  subst e;simp
 | y :: r, cur, p, h => by
  unfold zL at h;split at h
  ·rcases Qy.mp h with e | e
   ·subst e; simp
   ·have := zbl e;simp at this ⊢;omega
  ·have := zbl h;simp at this ⊢;omega
theorem Asc.part {c : Nat} {l p : List Nat} (h : Asc l) (hp : p ∈ zL c [] l) : Asc p := by
 refine ⟨fun x hx => ?_, ?_⟩
 ·rcases gS hp x hx with z | z
  ·cases z
  ·exact h.1 x z
 ·have := zbl hp;have := h.2;simp at *;omega
theorem znx {α : Type} {l : List α} (h : l.length = 2) : ∃ a b, l = [a, b] := by
 rcases l with _ | ⟨a, _ | ⟨b, _ | ⟨c, r⟩⟩⟩
 ·cases h
 ·cases h
 ·exact ⟨a, b, rfl⟩
 ·simp at h
def zod (C : Addr) : Sp := fun vs H Q E => ∃ w : List Nat, vs = [.str (mkS w)] /\ Asc w /\ (∀ p d H', vO w = some p -> Same H H' -> H' d = some (.tup [.int p.1, .int p.2]) -> Q (.ref d) H') /\ (∀ H', vO w = none -> Same H H' -> E (.ref C) none H')
section
variable {P : Program} {w : World} {K : W.Frag} {mg : Str -> Option Value} {base : Heap}
theorem scRTie : zR ["word", "halves"] ["word"] (zH zan) := ⟨rfl, rfl, rfl, by decide +kernel, rfl, by decide +kernel, by decide +kernel⟩
theorem zAi {C : Addr} {bm : List Value} (T : Txt K mg) (hm : mg "NoText" = some (.ref C)) (hc : vH K C bm = true) (S : Src K mg "read_tie" zan ["word"]) (DN : y9 P w K mg base 1 "read_number" ["word"] (znh C)) : y9 P w K mg base 2 "read_tie" ["word"] (zod C) := by
 refine Src.defQ S scRTie (fun vs H Q E h => ?_) (fun f cdv A outer s H vs Q E hr h => ?_)
 ·obtain ⟨i, rfl, _⟩ := h; rfl
 ·obtain ⟨l, rfl, as, q, qe⟩ := h;refine ⟨_, zD (zU (i := 1) scRTie.nd rfl (Or.inl rfl) (kS PySem.F.plainAttrs_str PySem.F.slot_str_split PySem.F.type_str_split zaq (pv 0) (zA zE zC)))
   (zD (yL (zP j6 (zM (xT K) (by rfl) T.len PySem.boot_len (zA (pv 1) zC)) zF (yA _)) (zG (yO rfl hm hc (zA zE zC))) zQ)
   (zG (zV (wH (zA (yB DN hr rfl (zA (zT (zO K) (pv 1) zF (fun _ _ => rfl)) zC)) (zA (yB DN hr rfl (zA (zT (zO K) (pv 1) zF (fun _ _ => rfl)) zC)) zC)))))), ?_⟩
  have L : (mkS l).length = l.length := yP _;refine ⟨_, rfl, rfl, _, 45, rfl, congrArg (fun z => [V.str z]) zas, by decide, by rw [L]; have := as.2; omega, fun a ha => ?_⟩;rw [yK];have s1 := Same.new (o := HO.lst ((zL 45 [] l).map fun l => V.str (mkS l))) ha;have hl : (upd H a (HO.lst ((zL 45 [] l).map fun l => V.str (mkS l)))) a = some (.lst ((zL 45 [] l).map fun l => V.str (mkS l))) := zB;generalize upd H a (HO.lst ((zL 45 [] l).map fun l => V.str (mkS l))) = H1 at s1 hl ⊢;refine ⟨_, rfl, _, _, rfl, .inl (SqL.of hl), rfl, _, rfl, ?_⟩;by_cases h2 : (zL 45 [] l).length = 2
  ·obtain ⟨x, y, e⟩ := znx h2;rw [e] at hl ⊢;refine zmo rfl ?_;have ax : Asc x := as.part (by rw [e]; simp);have ay : Asc y := as.part (by rw [e]; simp);have te : vO l = match num x, num y with | some i, some j => some (i, j) | _, _ => none := by unfold vO; rw [e]; all_goals (show (match num x, num y with | some i, some j => some (i, j) | _, _ => none) = _; cases num x <;> cases num y <;> rfl)
   refine ⟨_, rfl, a, _, _, _, rfl, rfl, SqL.of hl, zJ (j := 0) rfl, x, rfl, ax, fun n H2 hn s2 => ?_, fun H2 hn s2 => qe H2 (by rw [te, hn]) (s1.trans s2)⟩;refine ⟨_, rfl, a, _, _, _, rfl, rfl, SqL.of (s2 _ _ hl), zJ (j := 1) rfl, y, rfl, ay, fun m H3 hm s3 => ⟨by show 2 <= sizeLine; decide, fun d hd => ?_⟩, fun H3 hm s3 => qe H3 (by rw [te, hn, hm]) ((s1.trans s2).trans s3)⟩;exact q (n, m) d _ (by rw [te, hn, hm]) (((s1.trans s2).trans s3).trans (Same.new hd)) zB
  ·have hne : decide (V.int (((zL 45 [] l).map fun l => V.str (mkS l)).length : Int) = V.int 2) = false := Qv fun z => by
    have := V.int.inj z;rw [Qj] at this;omega
   rw [hne];refine xK ⟨by show 1 <= 100; decide, qe _ ?_ s1⟩;unfold vO;rcases hs : zL 45 [] l with _ | ⟨x, _ | ⟨y, _ | ⟨z, r⟩⟩⟩
   ·rfl
   ·rfl
   ·rw [hs] at h2; exact absurd rfl h2
   ·rfl
end
def zee (n : Int) (p : Int × Int) : Prop := p.1 < n /\ p.2 < n
instance {n : Int} {p : Int × Int} : Decidable (zee n p) := by unfold zee; infer_instance
theorem zlm {n : Int} {p : Int × Int} {l2 : List (Int × Int)} (hp : ¬ zee n p) : ∀ {l1 : List (Int × Int)}, (∀ q ∈ l1, zee n q) -> zco n (l1 ++ p :: l2) = some l1.length
 | [], _ => by
  show (if decide (p.1 < n) && decide (p.2 < n) then _ else some 0) = some 0;rw [if_neg];intro z;simp only [Qm, decide_eq_true_eq] at z;exact hp z
 | q :: r, h => by
  show (if decide (q.1 < n) && decide (q.2 < n) then (zco n (r ++ p :: l2)).map (· + 1) else some 0) = _;obtain ⟨h1, h2⟩ := h q Qg;rw [if_pos (by simp [h1, h2]), zlm hp fun q hq => h q (Qk _ hq)];rfl
theorem zew {n : Int} : ∀ {l : List (Int × Int)}, (∀ q ∈ l, zee n q) -> zco n l = none
 | [], _ => rfl
 | q :: r, h => by
  show (if decide (q.1 < n) && decide (q.2 < n) then (zco n r).map (· + 1) else some 0) = _;obtain ⟨h1, h2⟩ := h q Qg;rw [if_pos (by simp [h1, h2]), zew fun q hq => h q (Qk _ hq)];rfl
theorem zos (p : Int × Int) : vD p = zdt p := by
 unfold vD zdt;split
 ·rw [Int.min_eq_left (by assumption), Int.max_eq_right (by assumption)]
 ·rw [Int.min_eq_right (by omega), Int.max_eq_left (by omega)]
structure NT (K : W.Frag) (mg : Str -> Option Value) (C W : Addr) (bm : List Value) : Prop where
 gC : mg "NoTie" = some (.ref C)
 gW : mg "WebError" = some (.ref W)
 ib : jU K C bm = true
 init : ∃ f fd oI, PySem.W.findIn K (.ref C) "__init__" = some (some (.ref f)) /\ K.lookup f = some oI /\ oI.cls = .type "function" /\ Fun K "__init__" "NoTie.__init__" gB f fd /\ Binds K fd ["self", "at"] []
 s1 : PySem.W.specialIn K (.ref W) "__getattribute__" = some (some (.builtin "type.__getattribute__"))
 r1 : PySem.W.readsIn K W (.type "type") = true
 f1 : PySem.W.findCls K (.ref W) (.type "type") "__init__" = some (.val (.builtin "ValueError.__init__"))
 sa : PySem.W.findIn K (.ref C) "__setattr__" = some (some (.builtin "object.__setattr__"))
 mr : zdu K C = true
 na : PySem.W.findIn K (.ref C) "at" = some none
def zof (C : Addr) : Sp := fun vs H Q _ => ∃ (e : Addr) (k : Int), vs = [.ref e, .int k] /\ 0 <= k /\ k <= 9 /\ H e = some (gN e C none) /\ ∀ dx, H dx = none -> dx ≠ e -> Q .non (upd (upd H dx (.xd [("at", .int k)])) e (gN e C (some dx)))
section
variable {P : Program} {w : World} {K : W.Frag} {mg : Str -> Option Value} {base : Heap}
theorem zyd : zR ["self", "at"] ["self", "at"] (zH gB) := ⟨rfl, rfl, rfl, by decide +kernel, rfl, by decide +kernel, by decide +kernel⟩
theorem zua {f C W : Addr} {fd : FuncData} {bm : List Value} (F : Fun K "__init__" "NoTie.__init__" gB f fd) (N : NT K mg C W bm) : v9 P w K mg base CX0 1 f fd ["self", "at"] (zof C) := by
 refine F.ok zyd (fun vs H Q E h => ?_) (fun cdv A outer s H vs Q E hr h => ?_)
 ·obtain ⟨_, _, rfl, _⟩ := h; rfl
 ·obtain ⟨e, k, rfl, k0, k9, he, q⟩ := h;refine ⟨_, zD (zkm (bm := bm) rfl N.gW N.s1 N.r1 N.f1 (zA (pv 0) (zA (wZ (yW zE (yW (vR (pv 1)) j4))) zC))) (zG (zom (pv 0) (pv 1))), ?_⟩;have e1 : (Str.empty ++ ("no tie at " : Str)) = mkS [110, 111, 32, 116, 105, 101, 32, 97, 116, 32] := by decide +kernel
  have l1 : (Str.empty ++ ("no tie at " : Str)).length <= sizeLine := by rw [e1, yP]; show 10 <= sizeLine; decide
  have l2 : ((Str.empty ++ ("no tie at " : Str)) ++ (toString k : Str)).length <= sizeLine := by
   have e2 : (toString k : Str) = mkS [dg k] := hV k0 k9;rw [e1, e2, zcu, yP];show 11 <= sizeLine;decide
  exact ⟨_, rfl, _, rfl, l1, _, rfl, k, rfl, zae k0 k9, _, rfl, l2, l2, e, C, _, rfl, he, N.ib, _, rfl, _, rfl, e, C, rfl, he, N.sa, N.mr, N.na, fun dx h1 h2 => q dx h1 h2⟩
def zog (K : W.Frag) (CW CM CN : Addr) : Sp := fun vs H Q E => ∃ (a : Addr) (n : Int) (xs : List V) (ps : List (Int × Int)), vs = [.int n, .ref a] /\ H a = some (.lst xs) /\ Paired (TieAt H) xs ps /\ (∀ p ∈ ps, 0 <= p.1 /\ 0 <= p.2) /\ ps.length <= 900 /\
 (∀ H', made n ps = .web -> Same H H' -> E (.ref CW) none H') /\ (∀ H', made n ps = .many -> Same H H' -> E (.ref CM) none H') /\ (∀ k dx H', made n ps = .tie k -> Same H H' -> H' dx = some (.xd [("at", .int k)]) -> E (.ref CN) (some dx) H') /\
 (∀ m qs wv H', made n ps = .ok m qs -> Same H H' -> WebAt H' wv m qs -> Q wv H')
theorem zbz {i lo hi : Int} (h1 : lo <= i) (h2 : i <= hi) : xD lo hi (.int i) = true := by
 show (decide (lo <= i) && decide (i <= hi)) = true;simp [h1, h2]
theorem scMade : zR ["points", "ties", "at", "tie"] ["points", "ties"] (zH zrw) := ⟨rfl, rfl, rfl, by decide +kernel, rfl, by decide +kernel, by decide +kernel⟩
theorem jS {n : Nat} (h : n <= 8) : n < sizeLine := Jv h (by decide)
theorem zAn {CW CM CN W : Addr} {bw bmm bn : List Value} (T : Txt K mg) (S : Src K mg "made_web" zrw ["points", "ties"]) (gw : mg "NoWeb" = some (.ref CW)) (cw : vH K CW bw = true) (gm : mg "TooMany" = some (.ref CM)) (cm : vH K CM bmm = true) (N : NT K mg CN W bn) (DW : Def P w K mg base 2 "is_whole_within" ["thing", "least", "greatest"] (jE K))
  (DP : Def P w K mg base 3 "is_pair_of_points" ["thing", "points"] (zwa K)) (DL : Def P w K mg base 1 "lesser_first" ["a", "b"] zkf) : y9 P w K mg base 4 "made_web" ["points", "ties"] (zog K CW CM CN) := by
 obtain ⟨fI, fdI, oI, hi, hfI, hfc, FI, bI⟩ := N.init;have FO : v9 P w K mg base CX0 1 fI fdI ["self", "at"] (zof CN) := zua FI N;refine Src.defQ S scMade (fun vs H Q E h => ?_) (fun f cdv A outer s H vs Q E hr h => ?_)
 ·obtain ⟨_, _, _, _, rfl, _⟩ := h; rfl
 ·obtain ⟨a, n, xs, ps, rfl, ha, hp, hb, hl, qw, qm, qt, q⟩ := h;obtain ⟨tp, mpe⟩ := T.mp;obtain ⟨tt, mte⟩ := T.mt;have hr1 : Room 1 _ := hr.mono (by decide);have hr2 : Room 2 _ := hr.mono (by decide);have hr3 : Room 3 _ := hr;have hq : SqK .l K H a xs := SqL.of ha;have xl : xs.length = ps.length := Paired.length hp;refine ⟨_, zD (yL (vF (wG (yC DW hr2 rfl (zA (pv 0) (zA zF (zA (yJ (v := .int 9) rfl mpe ⟨_, rfl⟩) zC)))))) (zG (yO rfl gw cw (zA (wZ (yW zE (yW (vR (yJ (v := .int 9) rfl mpe ⟨_, rfl⟩)) j4))) zC))) zQ)
   (zD (yL (zP zxi (zM (xT K) (by rfl) T.len PySem.boot_len (zA (pv 1) zC)) (yJ (v := .int 8) rfl mte ⟨_, rfl⟩) (yA _)) (zG (yO rfl gm cm (zA (wZ (yW zE (yW (vR (yJ (v := .int 8) rfl mte ⟨_, rfl⟩)) (yW zE j4)))) zC))) zQ)
   (zD (zaa PassesOwn.leaving rfl (zts K .l rfl T.enum (zA (pv 1) zC)) (jX K 2 rfl (xV (yE (i := 2) scMade.nd rfl (Or.inl rfl)) (xV (yE (i := 3) scMade.nd rfl (Or.inl rfl)) jW)))
    (zG (yL (vF (wG (yC DP hr3 rfl (zA (pv 3) (zA (pv 0) zC))))) (zG (zgb FO bI hr2 rfl N.gC N.ib hi hfI hfc (zA (pv 2) zC))) zQ)))
   (zG (zV (wH (zA (pv 0) (zA (yG (x6 K) rfl T.tuple wD (zA (wL (N' := ["tie"]) (fr := [none]) (yH (by rfl)) rfl (wK K .l (pv 1))
    (fun _ _ _ _ => yE (i := 0) (show (["tie"] : List Str).Nodup by decide +kernel) rfl (Or.inl rfl) (Or.inr rfl)) (fun _ _ _ _ => yX)
    (fun _ _ _ _ => yC DL hr1 rfl (zA (zT (r := gG K) (zY K) (pv 0) zF (fun _ _ => rfl)) (zA (zT (r := gG K) (zY K) (pv 0) zF (fun _ _ => rfl)) zC)))) zC)) zC))))))), ?_⟩
  refine ⟨_, rfl, _, _, _, rfl, vG K H n, _, rfl, ?_⟩;by_cases hn : xD 1 9 (.int n) = true
  ·rw [hn];refine yR ?_;have hn' : 1 <= n /\ n <= 9 := by
    have z : (decide (1 <= n) && decide (n <= 9)) = true := hn
    simpa using z
   refine ⟨_, rfl, _, _, rfl, hq.or, _, _, rfl, rfl, _, rfl, ?_⟩;by_cases h8 : ps.length <= 8
   ·rw [Qv (show ¬ ((8 : Int) < (xs.length : Int)) by omega)];refine yR ?_;have hmade : made n ps = match zco n ps with | some k => .tie k | none => .ok n (ps.map zdt) := by
     unfold made;rw [if_pos (by simp [hn'.1, hn'.2]), if_pos h8];all_goals (cases zco n ps <;> rfl)
    refine ⟨_, rfl, a, xs, rfl, hq, zur (k := .l) (K := K) (a := a) (xs := xs) (fun i σ H' => (∃ u v, σ = [some (.int n), some (.ref a), u, v]) /\ Same H H' /\ ∀ q ∈ ps.take i, zee n q) ⟨⟨_, _, rfl⟩, Same.refl H, fun q hq => absurd hq (by simp)⟩ (fun i σ H' _ z => z.2.1.seqK hq) ?_ ?_⟩
    ·rintro i x p σ H' hx ⟨⟨u, v, rfl⟩, sm, gd⟩ hp';obtain ⟨pr, e1, c, rfl, hc⟩ := Paired.at hp hx;have sm1 : Same H (upd H' p (.tup [.int i, .ref c])) := sm.trans (Same.new hp');refine ⟨p, _, rfl, SqT.of zB, rfl, _, _, rfl, _, _, rfl, rfl, ?_⟩;obtain ⟨b1, b3⟩ := hb pr (Q6 e1);refine ⟨_, rfl, _, rfl, _, n, _, rfl, .two (sm1 _ _ hc) (vG K _ _) (vG K _ _), fun H2 sm2 => ?_⟩;by_cases hg : zee n pr
     ·rw [zbz b1 (by have := hg.1; omega), zbz b3 (by have := hg.2; omega)];refine ⟨_, rfl, yR ⟨⟨_, _, rfl⟩, sm1.trans sm2, fun q hq => ?_⟩⟩;rw [zW e1] at hq;rcases Q5.mp hq with z | z
      ·exact gd q z
      ·have : q = pr := by simpa using z
       subst this;exact hg
     ·have hw : (xD 0 (n - 1) (.int pr.1) && xD 0 (n - 1) (.int pr.2)) = false := by
       rw [Ww];intro z;have z' : ((decide (0 <= pr.1) && decide (pr.1 <= n - 1)) && (decide (0 <= pr.2) && decide (pr.2 <= n - 1))) = true := z;simp only [Qm, decide_eq_true_eq] at z';exact hg ⟨by omega, by omega⟩
      rw [hw];refine ⟨_, rfl, xK ?_⟩;have il : i < ps.length := (Qn.mp e1).1;have hbad : zco n ps = some i := by
       have e2 : ps = ps.take i ++ pr :: ps.drop (i + 1) := by
        have e3 : ps[i] = pr := (Qn.mp e1).2;rw [<- e3, List.getElem_cons_drop, List.take_append_drop]
       have e4 := zlm (l2 := ps.drop (i + 1)) hg gd;rw [<- e2, Jm, Nat.min_eq_left (Qu il)] at e4;exact e4
      refine ⟨_, rfl, by show 1 <= 100; decide, fun e he => ⟨e, i, rfl, by omega, by omega, zB, fun dx hdx hne => ⟨rfl, some dx, zB, ?_⟩⟩⟩;have sm3 : Same H2 (rem (upd (upd (upd H2 e (gN e CN none)) dx (.xd [("at", .int i)])) e (gN e CN (some dx))) e) := fun b o hb => by
       have n1 : b ≠ e := fun z => by rw [z, he] at hb; cases hb
       have n2 : b ≠ dx := fun z => by
        rw [zS hne] at hdx;rw [z, hdx] at hb;cases hb
       rw [hX n1, zS n1, zS n2, zS n1];exact hb
      refine qt i dx _ (by rw [hmade, hbad]) ((sm1.trans sm2).trans sm3) ?_;rw [hX hne, zS hne, zB]
    ·rintro σ H' ⟨⟨u, v, rfl⟩, sm, gd⟩;have gd' : ∀ q ∈ ps, zee n q := by
      rw [xl, Jz] at gd;exact gd
     refine ⟨_, rfl, _, rfl, a, rfl, ⟨xs, sm.seqK hq⟩, wY (k := .l) (a := a) (xs := xs) (fun σ => ∃ v, σ = [v]) (fun i ys H2 => Same H H2 /\ Paired (TieAt H2) ys ((ps.take i).map vD)) ⟨_, rfl⟩ ⟨sm, .nil⟩ (jS (by omega)) (fun i ys H2 _ z => z.1.seqK hq) ?_ ?_⟩
     ·rintro i x ys σ H2 N2 hx ⟨u, rfl⟩ ⟨sm2, hy⟩ hN;obtain ⟨pr, e1, c, rfl, hc⟩ := Paired.at hp hx;dsimp only [xH, List.set];refine zaw ?_;have hc2 := sm2 _ _ hc;refine ⟨_, rfl, c, _, _, _, rfl, rfl, SqT.of hc2, zJ (j := 0) rfl, _, rfl, c, _, _, _, rfl, rfl, SqT.of hc2, zJ (j := 1) rfl, _, _, rfl, fun d hd => ?_⟩;refine hN _ _ _ ⟨_, rfl⟩ ⟨sm2.trans (Same.new hd), ?_⟩ (by simp);rw [zW e1, Qp];exact L2.Paired.snoc (xG hy (Same.new hd)) ⟨d, rfl, zB⟩
     ·rintro ys H2 ⟨sm2, hy⟩ p hp2;have e2 : ps.take xs.length = ps := by rw [xl]; exact Jz
      rw [e2] at hy;refine ⟨p, ys, rfl, .inl ⟨SqL.of zB, fun l hl2 => ⟨by show 2 <= sizeLine; decide, fun c hc => ?_⟩⟩⟩;have s1 : Same H2 (upd H2 p (.lst ys)) := Same.new hp2;have s2 := Same.new (o := HO.tup ys) hl2;have s3 := Same.new (o := HO.tup [.int n, .ref l]) hc;have en : ps.map vD = ps.map zdt := List.map_congr_left fun p _ => zos p;refine q n (ps.map zdt) _ _ (by rw [hmade, zew gd']) (sm2.trans (s1.trans (s2.trans s3))) ?_;rw [<- en];exact ⟨c, l, ys, rfl, zB, s3 _ _ zB, xG hy (s1.trans (s2.trans s3))⟩
   ·rw [Qb (show ((8 : Int) < (xs.length : Int)) by omega)];refine xK ⟨_, rfl, by decide +kernel, 8, rfl, by decide +kernel, _, rfl, by decide +kernel, _, rfl, by decide +kernel, by decide +kernel, by show 1 <= 100; decide, qm H ?_ (Same.refl H)⟩;unfold made;rw [if_pos (by simp [hn'.1, hn'.2]), if_neg h8]
  ·rw [Ww.mpr hn];refine xK ⟨_, rfl, by decide +kernel, 9, rfl, by decide +kernel, _, rfl, by decide +kernel, by decide +kernel, by show 1 <= 100; decide, qw H ?_ (Same.refl H)⟩;unfold made;exact if_neg hn
end
theorem zjz : ∀ {l : List (List Nat)} {w : List Nat} {qs : List (Int × Int)} {p : Int × Int}, wV l = some qs -> vO w = some p -> wV (l ++ [w]) = some (qs ++ [p])
 | [], w, qs, p, h, hp => by
  cases h
  show (match vO w, wV [] with | some p, some ps => some (p :: ps) | _, _ => none) = _
  rw [hp];rfl
 | v :: r, w, qs, p, h, hp => by
  have h' : (match vO v, wV r with | some p, some ps => some (p :: ps) | _, _ => none) = some qs := h
  show (match vO v, wV (r ++ [w]) with | some p, some ps => some (p :: ps) | _, _ => none) = _
  cases e1 : vO v with
  | none => rw [e1] at h'; cases h'
  | some a =>
   cases e2 : wV r with
   | none => rw [e1, e2] at h'; cases h'
   | some as =>
    rw [e1, e2] at h';cases h'
    rw [zjz e2 hp];rfl
theorem zfw : ∀ {l : List (List Nat)} {w : List Nat}, w ∈ l -> vO w = none -> wV l = none
 | v :: r, w, h, hp => by
  show (match vO v, wV r with | some p, some ps => some (p :: ps) | _, _ => none) = _
  rcases Qy.mp h with e | e
  ·subst e;rw [hp]
  ·rw [zfw e hp];cases vO v <;> rfl
theorem zxt {w : List Nat} {p : Int × Int} (h : vO w = some p) : 0 <= p.1 /\ 0 <= p.2 := by
 unfold vO at h;split at h
 ·rename_i a b _
  have h' : (match num a, num b with | some i, some j => some (i, j) | _, _ => none) = some p := h
  cases e1 : num a with
  | none => rw [e1] at h'; cases h'
  | some i =>
   cases e2 : num b with
   | none => rw [e1, e2] at h'; cases h'
   | some j =>
    rw [e1, e2] at h';cases h'
    exact ⟨(zor e1).1, (zor e2).1⟩
 ·cases h
theorem zjy : ∀ {l : List (List Nat)} {qs : List (Int × Int)}, wV l = some qs -> (∀ p ∈ qs, 0 <= p.1 /\ 0 <= p.2) /\ qs.length = l.length
 | [], qs, h => by cases h; exact ⟨fun p hp => absurd hp (by simp), rfl⟩
 | v :: r, qs, h => by
  have h' : (match vO v, wV r with | some p, some ps => some (p :: ps) | _, _ => none) = some qs := h
  cases e1 : vO v with
  | none => rw [e1] at h'; cases h'
  | some a =>
   cases e2 : wV r with
   | none => rw [e1, e2] at h'; cases h'
   | some as =>
    rw [e1, e2] at h';cases h'
    obtain ⟨z1, z2⟩ := zjy e2;refine ⟨fun p hp => ?_, by simp [z2]⟩;rcases Qy.mp hp with e | e
    ·subst e; exact zxt e1
    ·exact z1 p e
theorem zIf (x : V) (xs : List V) : zhy (x :: xs) (some 1) none = xs := by
 unfold zhy;have e1' : HT.sIx (x :: xs).length 0 (some 1) = min 1 (x :: xs).length := HT.sIx_nat (x :: xs).length 0 1;have e2' : HT.sIx (x :: xs).length (x :: xs).length none = (x :: xs).length := rfl;rw [e1', e2'];simp
theorem kQ {c : Nat} : ∀ {l cur : List Nat}, zL c cur l ≠ []
 | [], cur => by simp [zL]
 | y :: r, cur => by
  unfold zL;split
  ·simp
  ·exact kQ
theorem w4 : bootBuiltins "str" = some (.type "str") := by first | rfl | decide +kernel
theorem zCd (K : W.Frag) : PySem.W.kitOne K (.type "str") (.type "str") = some true := by rfl
theorem zov {K : W.Frag} {H : Hp} {x : V} {t : Value} (h : gO K H x t) (hn : ∀ C, t ≠ .ref C) (hs : ∀ z, x ≠ .str z) : PySem.W.kitOne K t (.type "str") = some false := by
 cases h with
 | str x => exact absurd rfl (hs _)
 | ins => exact absurd rfl (hn _)
 | _ => first | rfl | decide +kernel
def Ans (C CW CM CN : Addr) (H : Hp) (Q : VK) (E : XK) : Res -> Prop
 | .text => ∀ H', Same H H' -> E (.ref C) none H'
 | .web => ∀ H', Same H H' -> E (.ref CW) none H'
 | .many => ∀ H', Same H H' -> E (.ref CM) none H'
 | .tie k => ∀ dx H', Same H H' -> H' dx = some (.xd [("at", .int k)]) -> E (.ref CN) (some dx) H'
 | .ok m qs => ∀ wv H', Same H H' -> WebAt H' wv m qs -> Q wv H'
def zvy (K : W.Frag) (C CW CM CN : Addr) : Sp := fun vs H Q E => (∃ x, vs = [x] /\ Plain K H x /\ (∀ z, x ≠ .str z) /\ Ans C CW CM CN H Q E .text) \/ ∃ z, vs = [.str (mkS z)] /\ Asc z /\ Ans C CW CM CN H Q E (zat z)
section
variable {P : Program} {w : World} {K : W.Frag} {mg : Str -> Option Value} {base : Heap}
theorem zyz {X : Cx} {scope : Scope} {N' : List Str} {fp : List Addr} {C : Addr} {s : Shared} {H : Hp} {EX : XK} {k : Nat} {x : Str} {ps : List Str} {sp : Sp} {e : Expr} {es : List Expr} {t : TA} {p pos : Pos} (D : y9 X.prog X.w X.K X.mg X.base k x ps sp) (hr : Room k X.A) (hg : Gl (yQ X scope N' fp C s H EX) x)
  (ha : PA (yQ X scope N' fp C s H EX) (e :: es) t) (hdb : (x == ("__debug__" : Str)) = false := by decide) (he : starEach (e :: es) (yQ X scope N' fp C s H EX).env = (false, eval e (yQ X scope N' fp C s H EX).env) :: starEach es (yQ X scope N' fp C s H EX).env := by rfl)
  (hpl : (backTo pos (starEach es (yQ X scope N' fp C s H EX).env)).any (·.1) = false := by rfl) : PE (yQ X scope N' fp C s H EX) (.Call (.Name x p) (e :: es) [] pos) (zic sp [] EX t) := by
 obtain ⟨g, fd, F, b, m, kp⟩ := D.ex;exact zhm (X := yQ X scope N' fp C s H EX) F hr hg m kp b .nil zBx ha hdb he hpl
theorem scRWeb : zR ["text", "halves", "points", "words", "ties"] ["text"] (zH zam) := ⟨rfl, rfl, rfl, by decide +kernel, rfl, by decide +kernel, by decide +kernel⟩
theorem zEj {C CW CM CN : Addr} {bm : List Value} (T : Txt K mg) (ts : mg "str" = none) (hm : mg "NoText" = some (.ref C)) (hc : vH K C bm = true) (S : Src K mg "read_web" zam ["text"]) (DN : y9 P w K mg base 1 "read_number" ["word"] (znh C)) (DT : y9 P w K mg base 2 "read_tie" ["word"] (zod C)) (DM : y9 P w K mg base 4 "made_web" ["points", "ties"] (zog K CW CM CN)) :
  y9 P w K mg base 5 "read_web" ["text"] (zvy K C CW CM CN) := by
 refine Src.defQ S scRWeb (fun vs H Q E h => ?_) (fun f cdv A outer s H vs Q E hr h => ?_)
 ·rcases h with ⟨_, rfl, _⟩ | ⟨_, rfl, _⟩ <;> rfl
 ·have hr1 : Room 1 _ := hr.mono (by decide);have hr2 : Room 2 _ := hr.mono (by decide);have hr4 : Room 4 _ := hr.mono (by decide);refine ⟨_, zD (yL (vF (wG (zM (jC K) (by rfl) T.isi yY (zA (pv 0) (zA (gH (v := .ty "str") rfl ts w4 rfl) zC))))) (zG (yO rfl hm hc (zA zE zC))) zQ)
   (zD (zU (i := 1) scRWeb.nd rfl (Or.inl rfl) (kS PySem.F.plainAttrs_str PySem.F.slot_str_split PySem.F.type_str_split zaq (pv 0) (zA zE zC)))
   (zD (yL (zP j6 (zM (xT K) (by rfl) T.len PySem.boot_len (zA (pv 1) zC)) zF (yA _)) (zG (yO rfl hm hc (zA zE zC))) zQ)
   (zD (zU (i := 2) scRWeb.nd rfl (Or.inl rfl) (yB DN hr1 rfl (zA (zT (zO K) (pv 1) zF (fun _ _ => rfl)) zC)))
   (zD (zU (i := 3) scRWeb.nd rfl (Or.inl rfl) (kS PySem.F.plainAttrs_str PySem.F.slot_str_split PySem.F.type_str_split zaq (zT (zO K) (pv 1) zF (fun _ _ => rfl)) (zA zE zC)))
   (zD (yL (zP j6 (zT (zO K) (pv 3) zF (fun _ _ => rfl)) zE (yA _)) (zG (yO rfl hm hc (zA zE zC))) zQ)
   (zD (zcc (i := 4) scRWeb.nd rfl (Or.inl rfl) (N' := ["word"]) (fr := [none]) (yH (by rfl)) (wK K .l (wP (wX K) (pv 3) (wJ zF) qF))
    (fun _ _ _ _ => yE (i := 0) (show (["word"] : List Str).Nodup by decide +kernel) rfl (Or.inl rfl) (Or.inr rfl)) (fun _ _ _ _ => yX)
    (fun _ _ _ _ => zyz DT hr2 rfl (zA (pv 0) zC)))
   (zG (zV (yB DM hr4 rfl (zA (pv 2) (zA (pv 4) zC))))))))))), ?_⟩
  rcases h with ⟨x, rfl, ⟨ty, px, pn⟩, nx, q⟩ | ⟨z, rfl, as, q⟩
  ·exact ⟨_, rfl, _, _, _, _, _, rfl, rfl, px, zov px pn nx, _, rfl, xK ⟨by show 1 <= 100; decide, q H (Same.refl H)⟩⟩
  ·have L : (mkS z).length = z.length := yP _;have qt : zat z = .text -> ∀ H', Same H H' -> E (.ref C) none H' := fun e => by rw [e] at q; exact q
   refine ⟨_, rfl, _, _, _, _, _, rfl, rfl, .str _, zCd K, _, rfl, yR ?_⟩;refine ⟨_, rfl, rfl, _, 58, rfl, congrArg (fun z => [V.str z]) zbq, by decide, by rw [L]; have := as.2; omega, fun a ha => ?_⟩;rw [yK];have s1 := Same.new (o := HO.lst ((zL 58 [] z).map fun l => V.str (mkS l))) ha;have hl : (upd H a (HO.lst ((zL 58 [] z).map fun l => V.str (mkS l)))) a = some (.lst ((zL 58 [] z).map fun l => V.str (mkS l))) := zB;generalize upd H a (HO.lst ((zL 58 [] z).map fun l => V.str (mkS l))) = H1 at s1 hl ⊢;refine ⟨_, rfl, _, _, rfl, .inl (SqL.of hl), rfl, _, rfl, ?_⟩;by_cases h2 : (zL 58 [] z).length = 2
   ·obtain ⟨x, y, e⟩ := znx h2;rw [e] at hl ⊢;refine zmo rfl ?_;have ax : Asc x := as.part (by rw [e]; simp);have ay : Asc y := as.part (by rw [e]; simp);have je : zat z = match num x, behind (zL 32 [] y) with | some n, some ps => made n ps | _, _ => .text := by
     unfold zat;rw [e];all_goals (show (match num x, behind (zL 32 [] y) with | some n, some ps => made n ps | _, _ => .text) = _; cases num x <;> cases behind (zL 32 [] y) <;> rfl)
    refine ⟨_, rfl, a, _, _, _, rfl, rfl, SqL.of hl, zJ (j := 0) rfl, x, rfl, ax, fun n H2 hn s2 => ?_, fun H2 hn s2 => qt (by rw [je, hn]) H2 (s1.trans s2)⟩;refine ⟨_, rfl, a, _, _, _, rfl, rfl, SqL.of (s2 _ _ hl), zJ (j := 1) rfl, rfl, _, 32, rfl, congrArg (fun z => [V.str z]) jB, by decide, by rw [yP]; have := ay.2; omega, fun b hb' => ?_⟩;rw [yK];have s3 := Same.new (o := HO.lst ((zL 32 [] y).map fun l => V.str (mkS l))) hb';have hl3 : (upd H2 b (HO.lst ((zL 32 [] y).map fun l => V.str (mkS l)))) b = some (.lst ((zL 32 [] y).map fun l => V.str (mkS l))) := zB;generalize upd H2 b (HO.lst ((zL 32 [] y).map fun l => V.str (mkS l))) = H3 at s3 hl3 ⊢;have s13 : Same H H3 := (s1.trans s2).trans s3;have hlen := qE 32 y [];rcases hw : zL 32 [] y with _ | ⟨w0, ws⟩
    ·exact absurd hw kQ
    ·rw [hw] at hl3 hlen;refine ⟨_, rfl, b, _, _, _, rfl, rfl, SqL.of hl3, zJ (j := 0) rfl, rfl, _, rfl, ?_⟩;have aw : ∀ v ∈ ws, Asc v := fun v hv => ay.part (by rw [hw]; exact Qk _ hv);by_cases h0 : w0 = []
     ·subst h0;refine zmo (congrArg V.str lit_none.symm) ?_;have jb : behind (zL 32 [] y) = wV ws := by rw [hw]; rfl
      refine ⟨_, rfl, _, rfl, b, _, rfl, SqL.of hl3, fun c hc => ?_⟩;rw [Jq, zIf];have s4 := Same.new (o := HO.lst (ws.map fun l => V.str (mkS l))) hc;have hl4 : (upd H3 c (HO.lst (ws.map fun l => V.str (mkS l)))) c = some (.lst (ws.map fun l => V.str (mkS l))) := zB;generalize upd H3 c (HO.lst (ws.map fun l => V.str (mkS l))) = H4 at s4 hl4 ⊢;have s14 : Same H H4 := s13.trans s4;have wl : ws.length <= 900 := by
       have := ay.2;simp at hlen;omega
      refine ⟨c, rfl, ⟨_, SqL.of hl4⟩, wY (k := .l) (a := c) (xs := ws.map fun l => V.str (mkS l)) (fun σ => ∃ v, σ = [v]) (fun i ys H5 => Same H4 H5 /\ ∃ qs, wV (ws.take i) = some qs /\ Paired (TieAt H5) ys qs) ⟨_, rfl⟩ ⟨Same.refl _, [], rfl, .nil⟩ (by rw [Qj]; exact Jv wl (by decide)) (fun i ys H5 _ z => SqL.of (z.1 _ _ hl4)) ?_ ?_⟩
      ·rintro j v ys σ H5 N hx ⟨u, rfl⟩ ⟨sm, qs, hqs, hy⟩ hN;rw [Q8] at hx;cases ew : ws[j]? with
       | none => rw [ew] at hx; cases hx
       | some wj =>
        rw [ew] at hx;cases hx
        have mj : wj ∈ ws := Q6 ew;dsimp only [xH, List.set];refine zaw ?_;refine ⟨_, rfl, wj, rfl, aw wj mj, fun p d H6 hp s6 hd => ?_, fun H6 hp s6 => qt (by rw [je, jb, hn, zfw mj hp]) H6 ((s14.trans sm).trans s6)⟩;refine hN _ _ _ ⟨_, rfl⟩ ⟨sm.trans s6, qs ++ [p], ?_, L2.Paired.snoc (xG hy s6) ⟨d, rfl, hd⟩⟩ (by simp);rw [zW ew];exact zjz hqs hp
      ·rintro ys H5 ⟨sm, qs, hqs, hy⟩ l hl5;rw [Qj, Jz] at hqs;obtain ⟨qp, ql⟩ := zjy hqs;have s5 := Same.new (o := HO.lst ys) hl5;have jm : zat z = made n qs := by rw [je, jb, hn, hqs]
       have s15 : Same H (upd H5 l (.lst ys)) := (s14.trans sm).trans s5;refine ⟨_, rfl, _, rfl, l, n, ys, qs, rfl, zB, xG hy s5, qp, by rw [ql]; exact wl, ?_, ?_, ?_, ?_⟩
       ·intro H' hr' s';rw [jm, hr'] at q;exact q H' (s15.trans s')
       ·intro H' hr' s';rw [jm, hr'] at q;exact q H' (s15.trans s')
       ·intro k dx H' hr' s' hd;rw [jm, hr'] at q;exact q dx H' (s15.trans s') hd
       ·intro m rs wv H' hr' s' W;rw [jm, hr'] at q;exact q wv H' (s15.trans s') W
     ·have hne : decide (V.str (mkS w0) = V.str ("" : Str)) = false := Qv fun z => h0 (zhp ((V.str.inj z).trans lit_none));have hb2 : behind (zL 32 [] y) = none := by
       rw [hw];cases w0 with
       | nil => exact absurd rfl h0
       | cons _ _ => rfl
      rw [hne];refine xK ⟨by show 1 <= 100; decide, qt (by rw [je, hn, hb2]) _ s13⟩
   ·have hne : decide (V.int (((zL 58 [] z).map fun l => V.str (mkS l)).length : Int) = V.int 2) = false := Qv fun zz => by
     have := V.int.inj zz;rw [Qj] at this;omega
    rw [hne];refine xK ⟨by show 1 <= 100; decide, qt ?_ _ s1⟩;unfold zat;rcases hs : zL 58 [] z with _ | ⟨x, _ | ⟨y, _ | ⟨v, r⟩⟩⟩
    ·rfl
    ·rfl
    ·rw [hs] at h2; exact absurd rfl h2
    ·rfl
end
theorem zlc : Str.empty = mkS [] := rfl
theorem xO {n : Nat} (h : n <= 100) : n <= sizeLine := Qc h (by decide)
theorem zEg {n : Int} (h0 : 0 <= n) (h9 : n <= 9) : (Str.empty ++ (toString n : Str)).length <= sizeLine /\ ((Str.empty ++ (toString n : Str)) ++ (":" : Str)).length <= sizeLine /\ ((Str.empty ++ (toString n : Str)) ++ (":" : Str)) = mkS [dg n, 58] := by
 have e : (toString n : Str) = mkS [dg n] := hV h0 h9;rw [e, zbq, zlc];simp only [zcu, yP];exact ⟨xO (by simp), xO (by simp), by simp⟩
theorem zHh {a b : Int} (a0 : 0 <= a) (a9 : a <= 9) (b0 : 0 <= b) (b9 : b <= 9) : (Str.empty ++ (" " : Str)).length <= sizeLine /\ ((Str.empty ++ (" " : Str)) ++ (toString a : Str)).length <= sizeLine /\ (((Str.empty ++ (" " : Str)) ++ (toString a : Str)) ++ ("-" : Str)).length <= sizeLine /\
  ((((Str.empty ++ (" " : Str)) ++ (toString a : Str)) ++ ("-" : Str)) ++ (toString b : Str)).length <= sizeLine /\ ((((Str.empty ++ (" " : Str)) ++ (toString a : Str)) ++ ("-" : Str)) ++ (toString b : Str)) = mkS (32 :: vN (a, b)) := by
 have e : (toString a : Str) = mkS [dg a] := hV a0 a9;have e' : (toString b : Str) = mkS [dg b] := hV b0 b9;rw [e, e', jB, zas, zlc];simp only [zcu, yP];exact ⟨xO (by simp), xO (by simp), xO (by simp), xO (by simp), by simp [vN]⟩
theorem zqs (f : Int × Int -> List Nat) (ps : List (Int × Int)) : Txt.join (mkS []) (ps.map fun p => mkS (f p)) = mkS (ps.flatMap f) := by
 apply zhe;rw [zdx, yK];cases ps with
 | nil => rfl
 | cons p ps =>
  show (mkS (f p)).cps.toList ++ (ps.map fun p => mkS (f p)).flatMap (fun t => (mkS []).cps.toList ++ t.cps.toList) = _;rw [List.flatMap_map, List.flatMap_cons];simp only [yK, List.nil_append]
def zoa : Sp := fun vs H Q _ => ∃ (wv : V) (n : Int) (ps : List (Int × Int)), vs = [wv] /\ WebAt H wv n ps /\ 1 <= n /\ n <= 9 /\ (∀ p ∈ ps, InN n p) /\ ps.length <= 8 /\ ∀ H', Same H H' -> Q (.str (mkS (vP n ps))) H'
section
variable {P : Program} {w : World} {K : W.Frag} {mg : Str -> Option Value} {base : Heap}
theorem scWText : zR ["web", "points"] ["web"] (zH zak) := ⟨rfl, rfl, rfl, by decide +kernel, rfl, by decide +kernel, by decide +kernel⟩
theorem nd2 : (["a", "b"] : List Str).Nodup := by decide +kernel
theorem zsy {f : Int × Int -> List Nat} (ps : List (Int × Int)) : (ps.map fun p => V.str (mkS (f p))) = (ps.map fun p => mkS (f p)).map V.str := by rw [Jt]; rfl
theorem znf (c : Nat) (f : Int × Int -> List Nat) (hf : ∀ p, (f p).length <= c) : ∀ (ps : List (Int × Int)), ((ps.map fun p => mkS (f p)).map (·.length)).sum <= c * ps.length
 | [] => by simp
 | p :: ps => by
  have := znf c f hf ps;have h1 := hf p;simp only [Jq, List.sum_cons, yP, Q1] at this ⊢;rw [Nat.mul_add];omega
theorem zAe (T : Txt K mg) (S : Src K mg "web_text" zak ["web"]) : Def P w K mg base 1 "web_text" ["web"] zoa := by
 refine S.def scWText (fun vs H Q E h => ?_) (fun f cdv A outer s H vs Q E hr h => ?_)
 ·obtain ⟨wv, n, ps, rfl, _⟩ := h; rfl
 ·obtain ⟨wv, n, ps, rfl, W, n1, n9, hb, hl8, q⟩ := h;obtain ⟨c, d, xs, rfl, hc, hd, ht⟩ := W.ex;refine ⟨_, zD (zU (i := 1) scWText.nd rfl (Or.inl rfl) (zT (zY K) (pv 0) zF (fun _ _ => rfl)))
   (zG (zV (zN xA (wZ (yW (vR (pv 1)) (yW zE j4)))
    (kS PySem.F.plainAttrs_str PySem.F.slot_str_join PySem.F.type_str_join zou zE (zA (wL (N' := ["a", "b"]) (fr := [none, none]) (yH (by rfl)) rfl (wK K .t (zT (zY K) (pv 0) zF (fun _ _ => rfl)))
     (g := zws K 2 (zcl (xH 0) (zcl (xH 1) zzu))) (fun _ _ _ _ => jX K 2 rfl (xV (yE (i := 0) nd2 rfl (Or.inl rfl) (Or.inr rfl)) (xV (yE (i := 1) nd2 rfl (Or.inl rfl) (Or.inr rfl)) jW)))
     (fun _ _ _ _ => yX) (fun _ _ _ _ => wZ (yW zE (yW (vR (pv 0)) (yW zE (yW (vR (pv 1)) j4)))))) zC))))), ?_⟩
  have i0 : atI ([.int n, .ref d] : List V) 0 = some (.int n) := zJ (j := 0) rfl;have i1 : atI ([.int n, .ref d] : List V) 1 = some (.ref d) := zJ (j := 1) rfl;obtain ⟨f1, f2, f3⟩ := zEg (n := n) (by omega) n9;refine ⟨_, rfl, c, _, _, _, rfl, rfl, SqT.of hc, i0, ?_⟩;refine ⟨_, rfl, n, rfl, zae (by omega) n9, _, rfl, f1, _, rfl, f2, f2, rfl, ?_⟩;have xl : xs.length = ps.length := Paired.length ht;refine ⟨_, rfl, c, _, _, _, rfl, rfl, SqT.of hc, i1, d, rfl, ⟨xs, SqT.of hd⟩, wY (k := .t) (a := d) (xs := xs) (fun σ => ∃ u v, σ = [u, v]) (fun i ys H2 => H2 = H /\ ys = (ps.take i).map fun p => V.str (mkS (32 :: vN p))) ⟨_, _, rfl⟩ ⟨rfl, rfl⟩ (jS (by omega)) (fun i ys H2 _ z => SqT.of (by rw [z.1]; exact hd)) ?_ ?_⟩
  ·rintro j x ys σ H9 N hx ⟨u, v, rfl⟩ ⟨rfl, rfl⟩ hN;obtain ⟨pr, e1, b, rfl, hb'⟩ := Paired.at ht hx;obtain ⟨b1, b2, b3, b4⟩ := hb pr (Q6 e1);obtain ⟨g1, g2, g3, g4, g5⟩ := zHh (a := pr.1) (b := pr.2) b1 (by omega) b3 (by omega);refine ⟨b, _, rfl, SqT.of hb', rfl, _, _, rfl, _, _, rfl, rfl, ?_⟩;dsimp only [xH, List.set];refine zaw ?_;refine ⟨_, rfl, g1, _, rfl, _, rfl, zae b1 (by omega), _, rfl, g2, _, rfl, g3, _, rfl, _, rfl, zae b3 (by omega), _, rfl, g4, g4, ?_⟩;rw [g5];refine hN _ _ _ ⟨_, _, rfl⟩ ⟨rfl, ?_⟩ (by simp);rw [zW e1, Qp];rfl
  ·rintro ys H9 ⟨rfl, rfl⟩ r hr9;rw [show ps.take xs.length = ps by rw [xl]; exact Jz];have s9 := Same.new (o := HO.lst (ps.map fun p => V.str (mkS (32 :: vN p)))) hr9;refine ⟨_, r, ps.map fun p => mkS (32 :: vN p), rfl, rfl, SqL.of (by rw [zB, zsy]), ?_, ?_⟩
   ·have := znf 4 (fun p => 32 :: vN p) (fun p => Qx _) ps;rw [Qj];have e0 : ("" : Str).length = 0 := by decide +kernel
    rw [e0];omega
   rw [lit_none, zqs (fun p => 32 :: vN p), f3];have wl := zeg (n := n) (ps := ps);have fl : (ps.flatMap fun p => 32 :: vN p).length = 4 * ps.length := by
    unfold vP at wl;rw [Ql] at wl;simp only [Q1, List.length_nil] at wl;omega
   refine ⟨_, _, rfl, rfl, ?_, ?_⟩
   ·rw [yP, yP, fl];exact xO (by simp; omega)
   ·rw [zcu];exact q _ s9
end
def zcz (f : List Int) (p : Int × Int) : Int × Int := vD (at0 f p.1, at0 f p.2)
def zwc : Sp := fun vs H Q _ => ∃ a b : Int, vs = [.int a, .int b] /\ ∀ d, H d = none -> Q (.ref d) (upd H d (.tup [.int (vD (a, b)).1, .int (vD (a, b)).2]))
def kH (K : W.Frag) : Sp := fun vs H Q _ => ∃ (kd : Kd) (t a : Addr) (n : Int) (f : List Int) (xs : List V) (ps : List (Int × Int)), vs = [.ref t, .ref a] /\ H t = some (.tup xs) /\ Paired (TieAt H) xs ps /\ SqK kd K H a (f.map V.int) /\ n <= (f.length : Int) /\ (∀ p ∈ ps, InN n p) /\ ps.length <= 8 /\
 ∀ r ys H', Same H H' -> H' r = some (.tup ys) -> Paired (TieAt H') ys (ps.map (zcz f)) -> Q (.ref r) H'
section
variable {P : Program} {w : World} {K : W.Frag} {mg : Str -> Option Value} {base : Heap}
theorem zDc : zR ["a", "b"] ["a", "b"] (zH gE) := ⟨rfl, rfl, rfl, by decide +kernel, rfl, by decide +kernel, by decide +kernel⟩
theorem zEr (S : Src K mg "lesser_first" gE ["a", "b"]) : Def P w K mg base 1 "lesser_first" ["a", "b"] zwc := by
 refine S.def zDc (fun vs H Q E h => ?_) (fun f cdv A outer s H vs Q E hr h => ?_)
 ·obtain ⟨_, _, rfl, _⟩ := h; rfl
 ·obtain ⟨a, b, rfl, q⟩ := h;refine ⟨_, zG (zV (qK (zP zds (pv 0) (pv 1) (yA _)) (wH (zA (pv 0) (zA (pv 1) zC))) (wH (zA (pv 1) (zA (pv 0) zC))))), ?_⟩;refine ⟨_, rfl, _, rfl, _, _, rfl, rfl, _, rfl, ?_⟩;by_cases h : a <= b
  ·rw [Qb h];refine xK ⟨_, rfl, _, rfl, by show 2 <= sizeLine; decide, fun d hd => ?_⟩;have := q d hd;rw [show vD (a, b) = (a, b) from if_pos h] at this;exact this
  ·rw [Qv h];refine yR ⟨_, rfl, _, rfl, by show 2 <= sizeLine; decide, fun d hd => ?_⟩;have := q d hd;rw [show vD (a, b) = (b, a) from if_neg h] at this;exact this
theorem zta : zR ["ties", "places"] ["ties", "places"] (zH zdl) := ⟨rfl, rfl, rfl, by decide +kernel, rfl, by decide +kernel, by decide +kernel⟩
theorem zBz : (["a", "b", "places"] : List Str).Nodup := by decide +kernel
theorem zva (T : Txt K mg) (S : Src K mg "ties_at" zdl ["ties", "places"]) (DL : Def P w K mg base 1 "lesser_first" ["a", "b"] zwc) : Def P w K mg base 2 "ties_at" ["ties", "places"] (kH K) := by
 refine S.def zta (fun vs H Q E h => ?_) (fun f cdv A outer s H vs Q E hr h => ?_)
 ·obtain ⟨_, _, _, _, _, _, _, rfl, _⟩ := h; rfl
 ·obtain ⟨kd, t, a, n, f, xs, ps, rfl, ht, pt, ha, hn, hb, h8, q⟩ := h;have xl : xs.length = ps.length := Paired.length pt;refine ⟨_, zG (zV (yG (x6 K) rfl T.tuple wD (zA (wL (N' := ["a", "b", "places"]) (fr := [none, none, some 1]) (yH (by rfl)) rfl (wK K .t (pv 0))
   (g := zws K 2 (zcl (xH 0) (zcl (xH 1) zzu))) (fun _ _ _ _ => jX K 2 rfl (xV (yE (i := 0) zBz rfl (Or.inl rfl) (Or.inr rfl)) (xV (yE (i := 1) zBz rfl (Or.inl rfl) (Or.inr rfl)) jW))) (fun _ _ _ _ => yX)
   (fun _ _ _ _ => yC DL hr rfl (zA (zT (r := zFl kd K) (zCe kd) (pv 2) (pv 0) (fun _ _ => rfl)) (zA (zT (r := zFl kd K) (zCe kd) (pv 2) (pv 1) (fun _ _ => rfl)) zC)))) zC))), ?_⟩
  refine ⟨_, rfl, t, rfl, ⟨_, SqT.of ht⟩, wY (k := .t) (a := t) (xs := xs) (fun σ => ∃ u v, σ = [u, v, some (.ref a)]) (fun j ys H2 => Same H H2 /\ Paired (TieAt H2) ys ((ps.take j).map (zcz f))) ⟨_, _, rfl⟩ ⟨Same.refl _, .nil⟩ (qI (by lia)) (fun j ys H2 _ z => SqT.of (z.1 _ _ ht)) ?_ ?_⟩
  ·rintro j x ys σ H2 N hx ⟨u, v, rfl⟩ ⟨s2, hys⟩ hN;obtain ⟨p, ep, c, rfl, hc⟩ := Paired.at pt hx;obtain ⟨b1, b2, b3, b4⟩ := hb p (Q6 ep);have a0 := zxc (l := f) (i := p.1) b1 (by lia);have a1 := zxc (l := f) (i := p.2) b3 (by lia);have ha2 := s2.seqK ha;refine ⟨c, _, rfl, SqT.of (s2 _ _ hc), rfl, _, _, rfl, _, _, rfl, rfl, ?_⟩;dsimp only [xH, List.set];refine zaw ⟨_, rfl, _, rfl, a, _, _, _, rfl, rfl, ha2, a0, _, rfl, _, rfl, a, _, _, _, rfl, rfl, ha2, a1, _, _, rfl, fun d hd => ?_⟩;have s3 := Same.new (o := HO.tup [.int (vD (at0 f p.1, at0 f p.2)).1, .int (vD (at0 f p.1, at0 f p.2)).2]) hd;refine hN _ _ _ ⟨_, _, rfl⟩ ⟨s2.trans s3, ?_⟩ (by simp);rw [zW ep, Qp];exact L2.Paired.snoc (xG hys s3) ⟨d, rfl, zB⟩
  ·rintro ys H2 ⟨s2, hys⟩ p3 hp3;rw [xl, Jz] at hys;have s3 := Same.new (o := HO.lst ys) hp3;refine ⟨p3, ys, rfl, .inl ⟨SqL.of zB, fun d hd => ?_⟩⟩;have s4 := Same.new (o := HO.tup ys) hd;exact q d ys _ (s2.trans (s3.trans s4)) zB (xG hys (s3.trans s4))
end
def zcq : Sp := fun vs H Q _ => ∃ (wv : V) (n : Int) (ps : List (Int × Int)) (p : Int), vs = [wv, .int p] /\ WebAt H wv n ps /\ 0 <= p /\ p < n /\ Q .non H
def zsj (K : W.Frag) (H : Hp) (n : Int) (x : V) : Prop := Plain K H x /\ xD 0 (n - 1) x = false
def zhi (K : W.Frag) (C : Addr) : Sp := fun vs H _ E => ∃ (wv x : V) (n : Int) (ps : List (Int × Int)), vs = [wv, x] /\ WebAt H wv n ps /\ zsj K H n x /\ E (.ref C) none H
theorem zpn {p n : Int} (h0 : 0 <= p) (h1 : p < n) : xD 0 (n - 1) (.int p) = true := by
 show (decide (0 <= p) && decide (p <= n - 1)) = true;rw [Qb h0, Qb (show p <= n - 1 by lia)];rfl
section
variable {P : Program} {w : World} {K : W.Frag} {mg : Str -> Option Value} {base : Heap}
theorem zwg : zR ["web", "point"] ["web", "point"] (zH zmb) := ⟨rfl, rfl, rfl, by decide +kernel, rfl, by decide +kernel, by decide +kernel⟩
theorem zEo (S : Src K mg "refuse_no_point_of" zmb ["web", "point"]) (D : Def P w K mg base 2 "is_whole_within" ["thing", "least", "greatest"] (jE K)) : Def P w K mg base 3 "refuse_no_point_of" ["web", "point"] zcq := by
 refine S.def zwg (fun vs H Q E h => ?_) (fun f cdv A outer s H vs Q E hr h => ?_)
 ·obtain ⟨_, _, _, _, rfl, _⟩ := h; rfl
 ·obtain ⟨wv, n, ps, p, rfl, W, p0, pn, q⟩ := h;obtain ⟨c, d, xs, rfl, hc, hd, ht⟩ := W.ex;refine ⟨_, zG (yL (vF (wG (yC D hr rfl (zA (pv 1) (zA zF (zA (zN j5 (zT (zY K) (pv 0) zF (fun _ _ => rfl)) zF) zC)))))) x8 zQ), ?_⟩;have i0 : atI ([.int n, .ref d] : List V) 0 = some (.int n) := zJ (j := 0) rfl;refine ⟨_, rfl, _, rfl, c, _, _, _, rfl, rfl, SqT.of hc, i0, _, _, rfl, rfl, .int p, 0, n - 1, rfl, vG K H p, ?_⟩;rw [zpn p0 pn];exact ⟨_, rfl, yR q⟩
theorem zAm {C : Addr} {bm : List Value} (S : Src K mg "refuse_no_point_of" zmb ["web", "point"]) (gC : mg "NoPoint" = some (.ref C)) (xC : vH K C bm = true) (D : Def P w K mg base 2 "is_whole_within" ["thing", "least", "greatest"] (jE K)) : y9 P w K mg base 3 "refuse_no_point_of" ["web", "point"] (zhi K C) := by
 refine Src.defQ S zwg (fun vs H Q E h => ?_) (fun f cdv A outer s H vs Q E hr h => ?_)
 ·obtain ⟨_, _, _, _, rfl, _⟩ := h; rfl
 ·obtain ⟨wv, x, n, ps, rfl, W, ⟨px, bx⟩, q⟩ := h;obtain ⟨c, d, xs, rfl, hc, hd, ht⟩ := W.ex;refine ⟨_, zG (yL (vF (wG (yC D hr rfl (zA (pv 1) (zA zF (zA (zN j5 (zT (zY K) (pv 0) zF (fun _ _ => rfl)) zF) zC)))))) (zG (yO rfl gC xC (zA zE zC))) zQ), ?_⟩;have i0 : atI ([.int n, .ref d] : List V) 0 = some (.int n) := zJ (j := 0) rfl;refine ⟨_, rfl, _, rfl, c, _, _, _, rfl, rfl, SqT.of hc, i0, _, _, rfl, rfl, x, 0, n - 1, rfl, px, ?_⟩;rw [bx];exact ⟨_, rfl, xK ⟨by decide, q⟩⟩
end
theorem qX (c : Int) : ∀ ties : List Int, inV (.int c) (ties.map V.int) = decide (c ∈ ties)
 | [] => rfl
 | x :: l => by
  have ih := qX c l;unfold inV at ih ⊢;rw [Jq, Wh, ih];show (x == c || decide (c ∈ l)) = decide (c ∈ x :: l);rw [Jd];simp only [Bool.or_eq_true, beq_iff_eq, decide_eq_true_iff, Qy];exact ⟨fun h => h.imp Eq.symm id, fun h => h.imp Eq.symm id⟩
theorem zau (l : List Int) : (l.map V.int).all k6 = true := by
 rw [Jy];intro x hx;obtain ⟨_, _, rfl⟩ := Wy.mp hx;rfl
theorem k7 {α : Type} (f : α -> Bool) {l : List α} {i : Nat} {k : α} (h : l[i]? = some k) : (l.take (i + 1)).filter f = (l.take i).filter f ++ if f k = true then [k] else [] := by
 rw [zW h, List.filter_append];congr 1;cases e : f k <;> simp [e]
theorem zrr : bootBuiltins "any" = some (.builtin "any") := by first | rfl | decide +kernel
def zlb (ps : List (Int × Int)) (ks : List Int) (x : Int) : Bool := (ks.map fun k => decide (x ∈ [(kG ps k).1, (kG ps k).2])).any id
def v5 (m : Nat) (ks : List Int) : List Int := (ups m).filter fun k => !decide (k ∈ ks)
def ApB (n u v : Int) (ps : List (Int × Int)) (ks : List Int) : Prop := ∀ x : Int, 0 <= x -> x < n -> x ≠ u -> x ≠ v -> zlb ps ks x = true -> zlb ps (v5 ps.length ks) x = true -> False
def plc (n u v : Int) : List Int := ((ups n).set u.toNat v).set v.toNat u
def zib (n u v : Int) (ps : List (Int × Int)) (ks : List Int) : List (Int × Int) := (ups ps.length).map fun k => if k ∈ ks then zcz (plc n u v) (kG ps k) else kG ps k
def zhj (K : W.Frag) : Sp := fun vs H Q _ => ∃ (kd : Kd) (wv : V) (tk : Addr) (n : Int) (ps : List (Int × Int)) (ks : List Int) (x : Int), vs = [wv, .ref tk, .int x] /\ WebAt H wv n ps /\ SqK kd K H tk (ks.map V.int) /\ Ks ps.length ks /\ ks.length <= 8 /\ ∀ H', Same H H' -> Q (.bl (zlb ps ks x)) H'
def zhh (K : W.Frag) : Sp := fun vs H Q _ => ∃ (wv : V) (pk : Addr) (n : Int) (ps : List (Int × Int)) (ks : List Int) (u v : Int), vs = [wv, .ref pk, .int u, .int v] /\ WebAt H wv n ps /\ qH n ps /\ SqT K H pk (ks.map V.int) /\ Ks ps.length ks /\ ks.length <= 8 /\ ApB n u v ps ks /\ ∀ H', Same H H' -> Q .non H'
def zvx (K : W.Frag) : Sp := fun vs H Q _ => ∃ (wv : V) (pk : Addr) (n : Nat) (ps : List (Int × Int)) (ks : List Int) (u v : Int), vs = [wv, .ref pk, .int u, .int v] /\ WebAt H wv n ps /\ qH n ps /\ SqT K H pk (ks.map V.int) /\ Ks ps.length ks /\ ks.length <= 8 /\ (0 <= u /\ u < (n : Int)) /\ (0 <= v /\ v < (n : Int)) /\ u ≠ v /\ ApB n u v ps ks /\
 ∀ w' H', Same H H' -> WebAt H' w' n (zib n u v ps ks) -> Q w' H'
theorem zki (m : Nat) (ks : List Int) : Ks m (v5 m ks) := fun k hk => mem_ups.mp (List.mem_filter.mp hk).1
theorem zga (m : Nat) (ks : List Int) : (v5 m ks).length <= m := by
 have := List.length_filter_le (fun k => !decide (k ∈ ks)) (ups m);rw [xY] at this;unfold v5;lia
theorem zyu (n : Nat) (u v : Int) : (plc n u v).length = n := by unfold plc; rw [List.length_set, List.length_set, xY]; lia
section
variable {P : Program} {w : World} {K : W.Frag} {mg : Str -> Option Value} {base : Heap}
theorem zye : zR ["web", "ties", "point"] ["web", "ties", "point"] (zH ziq) := ⟨rfl, rfl, rfl, by decide +kernel, rfl, by decide +kernel, by decide +kernel⟩
theorem zHa : (["k", "point", "web"] : List Str).Nodup := by decide +kernel
theorem zAr (hany : mg "any" = none) (S : Src K mg "is_end_in" ziq ["web", "ties", "point"]) : Def P w K mg base 1 "is_end_in" ["web", "ties", "point"] (zhj K) := by
 refine S.def zye (fun vs H Q E h => ?_) (fun f cdv A outer s H vs Q E hr h => ?_)
 ·obtain ⟨_, _, _, _, _, _, _, rfl, _⟩ := h; rfl
 ·obtain ⟨kd, wv, tk, n, ps, ks, x, rfl, W, hk, hks, k8, q⟩ := h;obtain ⟨c, d, xs, rfl, hc, hd, ht⟩ := W.ex;refine ⟨_, zG (zV (zM (zvq rfl) (by rfl) hany zrr (zA (wL (N' := ["k", "point", "web"]) (fr := [none, some 2, some 0]) (yH (by rfl)) rfl (wK K kd (pv 1)) (fun _ _ _ _ => yE (i := 0) zHa rfl (Or.inl rfl) (Or.inr rfl)) (fun _ _ _ _ => yX)
   (fun _ _ _ _ => vS (r := rIn K false) qZ (pv 1) (zT (r := gG K) (zY K) (zT (r := gG K) (zY K) (pv 2) zF (fun _ _ => rfl)) (pv 0) (fun _ _ => rfl)) rfl)) zC))), ?_⟩
  have i1 : atI ([.int n, .ref d] : List V) 1 = some (.ref d) := zJ (j := 1) rfl;refine ⟨_, rfl, tk, rfl, ⟨_, hk⟩, wY (k := kd) (a := tk) (xs := ks.map V.int) (fun σ => ∃ v, σ = [v, some (.int x), some (.ref c)]) (fun i ys H2 => H2 = H /\ ys = ((ks.take i).map fun k => decide (x ∈ [(kG ps k).1, (kG ps k).2])).map V.bl) ⟨_, rfl⟩ ⟨rfl, rfl⟩ (by rw [Qj]; exact qI (by lia)) (fun i ys H2 _ z => by rw [z.1]; exact hk) ?_ ?_⟩
  ·rintro i y ys σ H2 N hx ⟨v, rfl⟩ ⟨rfl, rfl⟩ hN;obtain ⟨k, ek, rfl⟩ := kM hx;obtain ⟨k0, kl⟩ := hks k (Q6 ek);obtain ⟨tc, et, htc⟩ := zns ht k0 kl;dsimp only [xH, List.set];refine zaw ⟨_, rfl, _, rfl, c, _, _, _, rfl, rfl, SqT.of hc, i1, _, rfl, d, _, _, _, rfl, rfl, SqT.of hd, et, tc, _, rfl, .inr (SqT.of htc), rfl, rfl, ?_⟩;rw [if_neg Qs, show inV (.int x) [V.int (kG ps k).1, V.int (kG ps k).2] = decide (x ∈ [(kG ps k).1, (kG ps k).2]) from qX x [(kG ps k).1, (kG ps k).2]];refine hN _ _ _ ⟨_, rfl⟩ ⟨rfl, ?_⟩ (by simp);rw [zW ek, Qp, Qp];rfl
  ·rintro ys H2 ⟨rfl, rfl⟩ p hp;rw [Qj, Jz];exact ⟨p, _, rfl, SqL.of zB, q _ (Same.new hp)⟩
theorem scNotAp : zR ["web", "pick", "u", "v", "rest", "point"] ["web", "pick", "u", "v"] (zH zez) := ⟨rfl, rfl, rfl, by decide +kernel, rfl, by decide +kernel, by decide +kernel⟩
theorem zId : (["k", "pick"] : List Str).Nodup := by decide +kernel
theorem zAk (T : Txt K mg) (S : Src K mg "refuse_not_apart" zez ["web", "pick", "u", "v"]) (DW : Def P w K mg base 1 "whole_pick" ["web"] zvw) (DE : Def P w K mg base 1 "is_end_in" ["web", "ties", "point"] (zhj K)) : Def P w K mg base 2 "refuse_not_apart" ["web", "pick", "u", "v"] (zhh K) := by
 refine S.def scNotAp (fun vs H Q E h => ?_) (fun f cdv A outer s H vs Q E hr h => ?_)
 ·obtain ⟨_, _, _, _, _, _, _, rfl, _⟩ := h; rfl
 ·obtain ⟨wv, pk, n, ps, ks, u, v, rfl, W, ⟨⟨n1, n9⟩, hb, h8⟩, hk, hks, k8, ap, q⟩ := h;obtain ⟨c, d, xs, rfl, hc, hd, ht⟩ := id W.ex;obtain ⟨m, rfl⟩ := Q0 (show 0 <= n by lia);have hr1 : Room 1 _ := hr.mono (by decide);refine ⟨_, zD (vW (i := 4) scNotAp.nd rfl (Or.inl rfl) (N' := ["k", "pick"]) (fr := [none, some 1]) (yH (by rfl)) rfl (wK K .t (yC DW hr1 rfl (zA (pv 0) zC)))
    (fun _ _ _ _ => yE (i := 0) zId rfl (Or.inl rfl) (Or.inr rfl)) (fun _ _ _ _ => zkn (zP (r := rIn K true) vL (pv 0) (pv 1) rfl)) (fun _ _ _ _ => pv 0))
   (zG (zaa PassesOwn.never rfl (qC rfl T.range (zA (zT (zY K) (pv 0) zF (fun _ _ => rfl)) zC)) (yE (i := 5) scNotAp.nd rfl (Or.inl rfl))
    (zG (yL (PW.pt (hZ (zP vL (pv 5) (wH (zA (pv 2) (zA (pv 3) zC))) rfl) (hZ (wG (yC DE hr1 rfl (zA (pv 0) (zA (pv 1) (zA (pv 5) zC))))) (zbb (wG (yC DE hr1 rfl (zA (pv 0) (zA (pv 4) (zA (pv 5) zC))))))))) x8 zQ)))), ?_⟩
  have i0 : atI ([.int (m : Int), .ref d] : List V) 0 = some (.int (m : Int)) := zJ (j := 0) rfl;refine ⟨_, rfl, .ref c, (m : Int), ps, rfl, W, h8, fun t H1 s1 ht1 => ⟨t, rfl, ⟨_, SqT.of ht1⟩, ?_⟩⟩;refine wY (k := .t) (a := t) (xs := (ups ps.length).map V.int) (fun σ => ∃ u, σ = [u, some (.ref pk)]) (fun i ys H2 => H2 = H1 /\ ys = (((ups ps.length).take i).filter fun k => !decide (k ∈ ks)).map V.int) ⟨_, rfl⟩ ⟨rfl, rfl⟩ (by rw [Qj, xY]; exact qI (by lia)) (fun i ys H2 _ z => by rw [z.1]; exact SqT.of ht1) ?_ ?_
  ·rintro i y ys σ H2 N hx ⟨u, rfl⟩ ⟨rfl, rfl⟩ hN;obtain ⟨k, ek, rfl⟩ := kM hx;dsimp only [xH, List.set];refine ⟨_, rfl, _, rfl, pk, ks.map V.int, rfl, .inr (s1.tup hk), rfl, zau _, _, rfl, ?_⟩;rw [if_pos rfl, qX];refine zfi (fun z => ⟨_, rfl, ?_⟩) (fun z => ?_)
   ·refine hN _ _ _ ⟨_, rfl⟩ ⟨rfl, ?_⟩ (by simp);rw [k7 _ ek, if_pos z, Qp];rfl
   ·refine hN _ _ _ ⟨_, rfl⟩ ⟨rfl, ?_⟩ (by simp);rw [k7 _ ek, if_neg z, Jp]
  ·rintro ys H2 ⟨rfl, rfl⟩ p3 hp3;have el : ((ups (ps.length : Int)).map V.int).length = ps.length := by rw [Qj, xY]; lia
   rw [el, Jh (by rw [xY]; lia)];have s3 := s1.trans (Same.new (o := HO.lst ((v5 ps.length ks).map V.int)) hp3);have h3 : (upd H2 p3 (.lst ((v5 ps.length ks).map V.int))) p3 = some (.lst ((v5 ps.length ks).map V.int)) := zB;unfold v5 at s3 h3;generalize upd H2 p3 (.lst (((ups ps.length).filter fun k => !decide (k ∈ ks)).map V.int)) = H3 at s3 h3 ⊢;dsimp only [List.set];refine ⟨_, rfl, c, _, _, _, rfl, rfl, SqT.of (s3 _ _ hc), i0, (m : Int), rfl, by lia, by lia, ?_⟩;rw [Jx];refine zbt (lo := 0) (n := m) (fun j σ H' => (∃ z, σ = [some (.ref c), some (.ref pk), some (.int u), some (.int v), some (.ref p3), z]) /\ Same H3 H') ⟨⟨_, rfl⟩, Same.refl _⟩ ?_ ?_
   ·rintro j σ H4 hj ⟨⟨z, rfl⟩, sm⟩;rw [show (0 : Int) + (j : Int) = (j : Int) by lia];dsimp only [xH, List.set];refine ⟨_, rfl, _, rfl, _, rfl, by show 2 <= sizeLine; decide, fun g hg => ⟨g, [.int u, .int v], rfl, .inr (SqT.of zB), rfl, rfl, _, rfl, ?_⟩⟩;have s5 := sm.trans (Same.new (o := HO.tup [.int u, .int v]) hg);generalize upd H4 g (.tup [.int u, .int v]) = H5 at s5 ⊢;rw [if_pos rfl, show inV (.int (j : Int)) [V.int u, V.int v] = decide ((j : Int) ∈ [u, v]) from qX (j : Int) [u, v]];refine zfi (fun z1 => ?_) (fun z1 => yR ⟨⟨_, rfl⟩, s5⟩);have nu : ¬ (j : Int) ∈ [u, v] := fun y => by rw [Qb y] at z1; cases z1
    have j1 : (j : Int) ≠ u := fun y => nu (by rw [y]; simp);have j2 : (j : Int) ≠ v := fun y => nu (by rw [y]; simp);refine ⟨_, rfl, _, rfl, _, rfl, .t, .ref c, pk, (m : Int), ps, ks, (j : Int), rfl, W.same (s3.trans s5), (s3.trans s5).tup hk, hks, k8, fun H6 s6 => ⟨_, rfl, ?_⟩⟩;have s56 := s5.trans s6;refine zfi (fun z2 => ?_) (fun z2 => yR ⟨⟨_, rfl⟩, s56⟩);refine ⟨_, rfl, _, rfl, _, rfl, .l, .ref c, p3, (m : Int), ps, v5 ps.length ks, (j : Int), rfl, W.same (s3.trans s56), SqL.of (s56 _ _ h3), zki _ _, Qc (zga _ _) h8, fun H7 s7 => ⟨_, rfl, ?_⟩⟩;refine zfi (fun z3 => ?_) (fun z3 => ⟨⟨_, rfl⟩, s56.trans s7⟩);exact (ap (j : Int) (by lia) (by lia) j1 j2 z2 z3).elim
   ·rintro σ H4 ⟨⟨z, rfl⟩, sm⟩;exact q _ (s3.trans sm)
theorem scTurn : zR ["web", "pick", "u", "v", "places", "turned"] ["web", "pick", "u", "v"] (zH zih) := ⟨rfl, rfl, rfl, by decide +kernel, rfl, by decide +kernel, by decide +kernel⟩
theorem znp : (["k", "pick", "turned", "web"] : List Str).Nodup := by decide +kernel
theorem zEi (T : Txt K mg) (S : Src K mg "turned_over" zih ["web", "pick", "u", "v"]) (DP : Def P w K mg base 3 "refuse_no_point_of" ["web", "point"] zcq) (DN : Def P w K mg base 2 "refuse_not_apart" ["web", "pick", "u", "v"] (zhh K)) (DA : Def P w K mg base 2 "ties_at" ["ties", "places"] (kH K)) (DW : Def P w K mg base 1 "whole_pick" ["web"] zvw) : Def P w K mg base 4 "turned_over" ["web", "pick", "u", "v"] (zvx K) := by
 refine S.def scTurn (fun vs H Q E h => ?_) (fun f cdv A outer s H vs Q E hr h => ?_)
 ·obtain ⟨_, _, _, _, _, _, _, rfl, _⟩ := h; rfl
 ·obtain ⟨wv, pk, n, ps, ks, u, v, rfl, W, ok, hk, hks, k8, hu, hv, uv, ap, q⟩ := h;obtain ⟨⟨n1, n9⟩, hb, h8⟩ := id ok;obtain ⟨c, d, xs, rfl, hc, hd, ht⟩ := id W.ex;have hr1 : Room 1 _ := hr.mono (by decide);have hr2 : Room 2 _ := hr.mono (by decide);refine ⟨_, zD (xI (yC DP hr rfl (zA (pv 0) (zA (pv 2) zC))))
   (zD (xI (yC DP hr rfl (zA (pv 0) (zA (pv 3) zC))))
   (zD (yL (zP wA (pv 2) (pv 3) (yA _)) x8 zQ)
   (zD (xI (yC DN hr2 rfl (zA (pv 0) (zA (pv 1) (zA (pv 2) (zA (pv 3) zC))))))
   (zD (zU (i := 4) scTurn.nd rfl (Or.inl rfl) (yG (qT rfl) rfl T.list gZ (zA (yG qQ rfl T.range qS (zA (zT (zY K) (pv 0) zF (fun _ _ => rfl)) zC)) zC)))
   (zD (zab (pv 3) (zct (pv 4) (pv 2) jF))
   (zD (zab (pv 2) (zct (pv 4) (pv 3) jF))
   (zD (zU (i := 5) scTurn.nd rfl (Or.inr rfl) (yC DA hr2 rfl (zA (zT (zY K) (pv 0) zF (fun _ _ => rfl)) (zA (pv 4) zC))))
   (zG (zV (wH (zA (zT (zY K) (pv 0) zF (fun _ _ => rfl)) (zA (yG (x6 K) rfl T.tuple wD (zA (wL (N' := ["k", "pick", "turned", "web"]) (fr := [none, some 1, some 5, some 0]) (yH (by rfl)) rfl (wK K .t (yC DW hr1 rfl (zA (pv 0) zC)))
    (fun _ _ _ _ => yE (i := 0) znp rfl (Or.inl rfl) (Or.inr rfl)) (fun _ _ _ _ => yX)
    (fun _ _ _ _ => qK (zP (r := rIn K false) qZ (pv 0) (pv 1) rfl) (zT (r := gG K) (zY K) (pv 2) (pv 0) (fun _ _ => rfl)) (zT (r := gG K) (zY K) (zT (r := gG K) (zY K) (pv 3) zF (fun _ _ => rfl)) (pv 0) (fun _ _ => rfl)))) zC)) zC)))))))))))), ?_⟩
  have i0 : atI ([.int (n : Int), .ref d] : List V) 0 = some (.int (n : Int)) := zJ (j := 0) rfl;have i1 : atI ([.int (n : Int), .ref d] : List V) 1 = some (.ref d) := zJ (j := 1) rfl;refine ⟨_, rfl, _, rfl, .ref c, (n : Int), ps, u, rfl, W, hu.1, hu.2, ?_⟩;refine ⟨_, rfl, _, rfl, .ref c, (n : Int), ps, v, rfl, W, hv.1, hv.2, ?_⟩;refine ⟨_, rfl, _, rfl, rfl, _, rfl, ?_⟩;rw [Qv (show ¬ V.int u = V.int v from fun z => uv (by injection z))];refine yR ?_;refine ⟨_, rfl, _, rfl, _, rfl, _, rfl, .ref c, pk, (n : Int), ps, ks, u, v, rfl, W, ok, hk, hks, k8, ap, fun H0 s0 => ?_⟩;refine ⟨_, rfl, c, _, _, _, rfl, rfl, SqT.of (s0 _ _ hc), i0, _, rfl, fun p hp => ⟨p, n, rfl, zB, by lia, fun l hl => ?_⟩⟩;have lN : H l = none := xP (s0.trans (Same.new (o := HO.rng 0 n) hp)) hl;have s1 := s0.trans ((Same.new (o := HO.rng 0 n) hp).trans (Same.new (o := HO.lst (upN n)) hl));have hl1 : (upd (upd H0 p (.rng 0 n)) l (.lst (upN n))) l = some (.lst ((ups n).map V.int)) := by rw [zB, znv]
  generalize upd (upd H0 p (.rng 0 n)) l (.lst (upN n)) = H1 at s1 hl1 ⊢;dsimp only [List.set];have ixu : ∀ (z : Int) (ms : List Int), 0 <= z -> z < (n : Int) -> ms.length = n -> ixN (ms.map V.int).length z = some z.toNat := fun z ms z0 zn e => by
   unfold ixN;rw [if_pos z0, Qj, if_pos (by lia)]
  refine ⟨_, rfl, _, rfl, _, rfl, l, _, u, u.toNat, rfl, rfl, hl1, ixu u (ups n) hu.1 hu.2 (by rw [xY]; lia), ?_⟩;have s2 := wO (o := .lst (((ups n).map V.int).set u.toNat (.int v))) s1 lN;have hl2 : (upd H1 l (.lst (((ups n).map V.int).set u.toNat (.int v)))) l = some (.lst (((ups n).set u.toNat v).map V.int)) := by rw [zB, List.map_set]
  generalize upd H1 l (.lst (((ups n).map V.int).set u.toNat (.int v))) = H2 at s2 hl2 ⊢;refine ⟨_, rfl, _, rfl, _, rfl, l, _, v, v.toNat, rfl, rfl, hl2, ixu v ((ups n).set u.toNat v) hv.1 hv.2 (by rw [List.length_set, xY]; lia), ?_⟩;have s3 := wO (o := .lst ((((ups n).set u.toNat v).map V.int).set v.toNat (.int u))) s2 lN;have hl3 : (upd H2 l (.lst ((((ups n).set u.toNat v).map V.int).set v.toNat (.int u)))) l = some (.lst ((plc n u v).map V.int)) := by rw [zB, <- List.map_set]; rfl
  generalize upd H2 l (.lst ((((ups n).set u.toNat v).map V.int).set v.toNat (.int u))) = H3 at s3 hl3 ⊢;refine ⟨_, rfl, c, _, _, _, rfl, rfl, SqT.of (s3 _ _ hc), i1, _, rfl, .l, d, l, (n : Int), plc n u v, xs, ps, rfl, s3 _ _ hd, xG ht s3, SqL.of hl3, by rw [zyu]; exact Int.le_refl _, hb, h8, fun r ys H4 s4 hr4 py => ?_⟩;have s04 := s3.trans s4;have hc4 := s04 _ _ hc;have hd4 := s04 _ _ hd;have ht4 := xG ht s04;dsimp only [List.set];refine ⟨_, rfl, c, _, _, _, rfl, rfl, SqT.of hc4, i0, _, rfl, .ref c, (n : Int), ps, rfl, W.same s04, h8, fun t H5 s5 ht5 => ⟨t, rfl, ⟨_, SqT.of ht5⟩, ?_⟩⟩;have s05 := s04.trans s5;have ym : ys.length = (ps.map (zcz (plc n u v))).length := Paired.length py;refine wY (k := .t) (a := t) (xs := (ups ps.length).map V.int) (fun σ => ∃ z, σ = [z, some (.ref pk), some (.ref r), some (.ref c)]) (fun i zs H6 => H6 = H5 /\ Paired (TieAt H5) zs (((ups ps.length).take i).map fun k => if k ∈ ks then zcz (plc n u v) (kG ps k) else kG ps k)) ⟨_, rfl⟩ ⟨rfl, .nil⟩ (by rw [Qj, xY]; exact qI (by lia)) (fun i zs H6 _ z => by rw [z.1]; exact SqT.of ht5) ?_ ?_
  ·rintro i y zs σ H6 N hx ⟨z, rfl⟩ ⟨rfl, hzs⟩ hN;obtain ⟨k, ek, rfl⟩ := kM hx;obtain ⟨k0, kl⟩ := mem_ups.mp (Q6 ek);dsimp only [xH, List.set];refine zaw ⟨_, rfl, _, rfl, pk, ks.map V.int, rfl, .inr (s05.tup hk), rfl, zau _, _, rfl, ?_⟩;rw [if_neg Qs, qX];refine zfi (fun z1 => ?_) (fun z1 => ?_)
   ·have mk : k ∈ ks := Jr z1;obtain ⟨tc, et, htc⟩ := zns (xG py s5) k0 (by rw [Qj]; exact kl);have en : kG (ps.map (zcz (plc n u v))) k = zcz (plc n u v) (kG ps k) := by
     unfold kG;have h2 : k.toNat < ps.length := by lia
     rw [Wj, Q8, Wj, List.getElem?_eq_getElem h2];rfl
    rw [en] at htc;refine ⟨_, rfl, _, rfl, r, _, _, _, rfl, rfl, SqT.of (s5 _ _ hr4), et, ?_⟩;refine hN _ _ _ ⟨_, rfl⟩ ⟨rfl, ?_⟩ (by simp);rw [zW ek, Qp, Jq, List.map_nil, if_pos mk];exact L2.Paired.snoc hzs ⟨tc, rfl, htc⟩
   ·have mk : ¬ k ∈ ks := fun y => z1 (Qb y);obtain ⟨tc, et, htc⟩ := zns (xG ht s05) k0 kl;refine ⟨_, rfl, c, _, _, _, rfl, rfl, SqT.of (s5 _ _ hc4), i1, _, rfl, d, _, _, _, rfl, rfl, SqT.of (s5 _ _ hd4), et, ?_⟩;refine hN _ _ _ ⟨_, rfl⟩ ⟨rfl, ?_⟩ (by simp);rw [zW ek, Qp, Jq, List.map_nil, if_neg mk];exact L2.Paired.snoc hzs ⟨tc, rfl, htc⟩
  ·rintro zs H6 ⟨rfl, hzs⟩ p7 hp7;have el : ((ups (ps.length : Int)).map V.int).length = ps.length := by rw [Qj, xY]; lia
   rw [el, Jh (by rw [xY]; lia)] at hzs;have s7 := Same.new (o := HO.lst zs) hp7;refine ⟨p7, zs, rfl, .inl ⟨SqL.of zB, fun e he => ⟨by show 2 <= sizeLine; decide, fun g hg => ?_⟩⟩⟩;have s8 := Same.new (o := HO.tup zs) he;have s9 := Same.new (o := HO.tup [.int (n : Int), .ref e]) hg;exact q (.ref g) _ (s05.trans (s7.trans (s8.trans s9))) ⟨g, e, zs, rfl, zB, s9 _ _ zB, xG hzs (s7.trans (s8.trans s9))⟩
end
theorem xW {α β : Type} {F : α -> β -> Prop} : ∀ {l₁ m₁ : List α} {l₂ m₂ : List β}, Paired F l₁ l₂ -> Paired F m₁ m₂ -> Paired F (l₁ ++ m₁) (l₂ ++ m₂)
 | _, _, _, _, .nil, h => h
 | _, _, _, _, .cons r t, h => .cons r (xW t h)
theorem zkz : ∀ (ns : List Int) (a : Int), (a <= ns.foldl (fun a b => if b > a then b else a) a) /\ (∀ x ∈ ns, x <= ns.foldl (fun a b => if b > a then b else a) a) /\ (ns.foldl (fun a b => if b > a then b else a) a = a \/ ns.foldl (fun a b => if b > a then b else a) a ∈ ns)
 | [], a => ⟨Int.le_refl _, (fun _ z => nomatch z), .inl rfl⟩
 | b :: ns, a => by
  obtain ⟨h1, h2, h3⟩ := zkz ns (if b > a then b else a);rw [List.foldl_cons];generalize ns.foldl (fun a b => if b > a then b else a) (if b > a then b else a) = m at h1 h2 h3;refine ⟨by split at h1 <;> omega, fun x hx => ?_, ?_⟩
  ·rcases Qy.mp hx with rfl | hx
   ·split at h1 <;> omega
   ·exact h2 x hx
  ·rcases h3 with h3 | h3
   ·by_cases c : b > a
    ·rw [if_pos c] at h3;exact .inr (by rw [h3]; exact Qg)
    ·rw [if_neg c] at h3;exact .inl h3
   ·exact .inr (Qk _ h3)
theorem zhq {ns : List Int} {m : Int} (hm : m ∈ ns) (h : ∀ x ∈ ns, x <= m) : zfg 0 ns = m := by
 cases ns with
 | nil => cases hm
 | cons n ns =>
  obtain ⟨h1, h2, h3⟩ := zkz ns n;show ns.foldl (fun a b => if b > a then b else a) n = m;have a1 : m <= ns.foldl (fun a b => if b > a then b else a) n := by
   rcases Qy.mp hm with rfl | hm
   ·exact h1
   ·exact h2 m hm
  have a2 : ns.foldl (fun a b => if b > a then b else a) n <= m := by
   rcases h3 with h3 | h3
   ·rw [h3]; exact h n Qg
   ·exact h _ (Qk _ h3)
  omega
def zso (n1 n2 : Nat) : List Int := (ups (n2 : Int)).map fun i => (n1 : Int) + i
def zln (n1 q : Nat) : List Int := (ups (q : Int)).map fun i => (n1 : Int) + i
def zfm (n1 q k : Nat) : List Int := (List.range k).map fun (i : Nat) => (n1 : Int) + ((q : Int) + 1 + (i : Int)) - 1
def zfh (n1 p q n2 : Nat) : List Int := zln n1 q ++ [(p : Int)] ++ zfm n1 q (n2 - (q + 1))
structure znt (n1 n2 n : Nat) (f : List Int) : Prop where
 len : f.length = n2
 inn : ∀ x ∈ f, 0 <= x /\ x < (n : Int)
 top : (if zfg 0 f + 1 > (n1 : Int) then zfg 0 f + 1 else (n1 : Int)) = (n : Int)
 ne : f ≠ []
 le : n1 <= n
theorem zFd {n1 n2 : Nat} (h : 1 <= n2) : znt n1 n2 (n1 + n2) (zso n1 n2) := by
 have l : (zso n1 n2).length = n2 := by unfold zso; rw [Qj, xY]; omega
 have m : zfg 0 (zso n1 n2) = (n1 : Int) + ((n2 : Int) - 1) := zhq (Wy.mpr ⟨(n2 : Int) - 1, mem_ups.mpr ⟨by omega, by omega⟩, rfl⟩) (fun x hx => by
  obtain ⟨i, hi, rfl⟩ := Wy.mp hx;have := mem_ups.mp hi;omega)
 refine ⟨l, fun x hx => ?_, ?_, fun z => by rw [z] at l; simp at l; omega, by omega⟩
 ·obtain ⟨i, hi, rfl⟩ := Wy.mp hx;have := mem_ups.mp hi;omega
 ·rw [m, if_pos (by omega)];omega
theorem zDw {n1 n2 p q : Nat} (hp : p < n1) (hq : q < n2) : znt n1 n2 (n1 + n2 - 1) (zfh n1 p q n2) := by
 have l : (zfh n1 p q n2).length = n2 := by
  unfold zfh zln zfm;rw [Ql, Ql, Qj, Qj, xY, List.length_range];show (q : Int).toNat + 1 + (n2 - (q + 1)) = n2;omega
 have mem : ∀ x, x ∈ zfh n1 p q n2 ↔ ((∃ i : Nat, i < q /\ x = (n1 : Int) + (i : Int)) \/ x = (p : Int) \/ ∃ i : Nat, i < n2 - (q + 1) /\ x = (n1 : Int) + ((q : Int) + 1 + (i : Int)) - 1) := fun x => by
  unfold zfh zln zfm;rw [Q5, Q5, Q3, Wy, Wy];constructor
  ·rintro ((⟨i, hi, rfl⟩ | rfl) | ⟨i, hi, rfl⟩)
   ·have := mem_ups.mp hi;exact .inl ⟨i.toNat, by omega, by omega⟩
   ·exact .inr (.inl rfl)
   ·exact .inr (.inr ⟨i, Jl.mp hi, rfl⟩)
  ·rintro (⟨i, hi, rfl⟩ | rfl | ⟨i, hi, rfl⟩)
   ·exact .inl (.inl ⟨(i : Int), mem_ups.mpr ⟨by omega, by omega⟩, rfl⟩)
   ·exact .inl (.inr rfl)
   ·exact .inr ⟨i, Jl.mpr hi, rfl⟩
 have inn : ∀ x ∈ zfh n1 p q n2, 0 <= x /\ x < ((n1 + n2 - 1 : Nat) : Int) := fun x hx => by
  rcases (mem x).mp hx with ⟨i, hi, rfl⟩ | rfl | ⟨i, hi, rfl⟩ <;> omega
 refine ⟨l, inn, ?_, fun z => by rw [z] at l; simp at l; omega, by omega⟩;by_cases c : n2 = 1
 ·have m : zfg 0 (zfh n1 p q n2) = (p : Int) := zhq ((mem _).mpr (.inr (.inl rfl))) fun x hx => by
   rcases (mem x).mp hx with ⟨i, hi, rfl⟩ | rfl | ⟨i, hi, rfl⟩ <;> omega
  rw [m];split <;> omega
 ·have m : zfg 0 (zfh n1 p q n2) = (n1 : Int) + (n2 : Int) - 2 := by
   refine zhq ((mem _).mpr ?_) fun x hx => by
    have := (inn x hx).2;omega
   by_cases d : q + 1 = n2
   ·exact .inl ⟨q - 1, by omega, by omega⟩
   ·exact .inr (.inr ⟨n2 - (q + 1) - 1, by omega, by omega⟩)
  rw [m, if_pos (by omega)];omega
structure OkV (n : Nat) (ps : List (Int × Int)) : Prop where
 n1 : 1 <= n
 hb : ∀ p ∈ ps, InN n p
def Both (C : Addr) (n : Nat) (qs : List (Int × Int)) (H : Hp) (Q : VK) (E : XK) : Prop := (n <= 9 -> qs.length <= 8 -> ∀ v H', Same H H' -> WebAt H' v n qs -> Q v H') /\ ((9 < n \/ 8 < qs.length) -> ∀ H', Same H H' -> E (.ref C) none H')
theorem Both.same {C : Addr} {n : Nat} {qs : List (Int × Int)} {H H1 : Hp} {Q : VK} {E : XK} (h : Both C n qs H Q E) (s : Same H H1) : Both C n qs H1 Q E := ⟨fun a b v H' s' W => h.1 a b v H' (s.trans s') W, fun a H' s' => h.2 a H' (s.trans s')⟩
def zBk (C : Addr) : Sp := fun vs H Q E => ∃ (ov tv : V) (pl : Addr) (n1 n2 n : Nat) (f : List Int) (ps1 ps2 : List (Int × Int)), vs = [ov, tv, .ref pl] /\ WebAt H ov n1 ps1 /\ WebAt H tv n2 ps2 /\ H pl = some (.lst (f.map V.int)) /\ znt n1 n2 n f /\ OkV n2 ps2 /\ ps1.length <= 8 /\ ps2.length <= 8 /\ Both C n (ps1 ++ ps2.map (zcz f)) H Q E
def zBj (C : Addr) : Sp := fun vs H Q E => ∃ (ov tv : V) (n1 n2 p q : Nat) (ps1 ps2 : List (Int × Int)), vs = [ov, .int p, tv, .int q] /\ WebAt H ov n1 ps1 /\ WebAt H tv n2 ps2 /\ OkV n2 ps2 /\ n2 <= 9 /\ ps1.length <= 8 /\ ps2.length <= 8 /\ p < n1 /\ q < n2 /\ Both C (n1 + n2 - 1) (ps1 ++ ps2.map (zcz (zfh n1 p q n2))) H Q E
def zBm (C : Addr) : Sp := fun vs H Q E => ∃ (ov tv : V) (n1 n2 : Nat) (ps1 ps2 : List (Int × Int)), vs = [ov, tv] /\ WebAt H ov n1 ps1 /\ WebAt H tv n2 ps2 /\ OkV n2 ps2 /\ n2 <= 9 /\ ps1.length <= 8 /\ ps2.length <= 8 /\ Both C (n1 + n2) (ps1 ++ ps2.map (zcz (zso n1 n2))) H Q E
section
variable {P : Program} {w : World} {K : W.Frag} {mg : Str -> Option Value} {base : Heap}
theorem scLaidW : zR ["one", "other", "places", "points", "ties"] ["one", "other", "places"] (zH zim) := ⟨rfl, rfl, rfl, by decide +kernel, rfl, by decide +kernel, by decide +kernel⟩
theorem zJf {C : Addr} {bm : List Value} {t9 t8 : Tok} (T : Txt K mg) (S : Src K mg "laid_with" zim ["one", "other", "places"]) (m9 : mg "MOST_POINTS" = some (.int 9 t9)) (m8 : mg "MOST_TIES" = some (.int 8 t8)) (hm : mg "TooMany" = some (.ref C)) (hc : vH K C bm = true) (DT : Def P w K mg base 2 "ties_at" ["ties", "places"] (kH K)) : y9 P w K mg base 3 "laid_with" ["one", "other", "places"] (zBk C) := by
 refine Src.defQ S scLaidW (fun vs H Q E h => ?_) (fun f cdv A outer s H vs Q E hr h => ?_)
 ·obtain ⟨_, _, _, _, _, _, _, _, _, rfl, _⟩ := h; rfl
 ·obtain ⟨ov, tv, pl, n1, n2, n, f, ps1, ps2, rfl, W1, W2, hpl, F, o2, l1, l2, B⟩ := h;obtain ⟨c1, d1, xs1, rfl, hc1, hd1, ht1⟩ := W1.ex;obtain ⟨c2, d2, xs2, rfl, hc2, hd2, ht2⟩ := W2.ex;have x1 : xs1.length = ps1.length := Paired.length ht1;refine ⟨_, zD (zU (i := 3) scLaidW.nd rfl (Or.inl rfl) (zM (zgm rfl) (by rfl) T.max zbw (zA (zT (zY K) (pv 0) zF (fun _ _ => rfl)) (zA (zN w8 (zM (zmx rfl) (by rfl) T.max zbw (zA (pv 2) zC)) zF) zC))))
   (zD (zU (i := 4) scLaidW.nd rfl (Or.inl rfl) (zN (zty K) (zT (zY K) (pv 0) zF (fun _ _ => rfl)) (yC DT hr rfl (zA (zT (zY K) (pv 1) zF (fun _ _ => rfl)) (zA (pv 2) zC)))))
   (zD (yL (PW.pt (zit (zP zxi (pv 3) (yJ (v := .int 9) rfl m9 ⟨_, rfl⟩) (yA _)) (zcr (zP zxi (zM (xT K) (by rfl) T.len PySem.boot_len (zA (pv 4) zC)) (yJ (v := .int 8) rfl m8 ⟨_, rfl⟩) (yA _)))))
    (zG (yO rfl hm hc (zA (wZ (yW zE (yW (vR (yJ (v := .int 9) rfl m9 ⟨_, rfl⟩)) (yW zE (yW (vR (yJ (v := .int 8) rfl m8 ⟨_, rfl⟩)) (yW zE j4)))))) zC))) zQ)
   (zG (zV (wH (zA (pv 3) (zA (pv 4) zC))))))), ?_⟩
  have i0 : atI ([.int (n1 : Int), .ref d1] : List V) 0 = some (.int (n1 : Int)) := zJ (j := 0) rfl;have i1 : atI ([.int (n1 : Int), .ref d1] : List V) 1 = some (.ref d1) := zJ (j := 1) rfl;have j1 : atI ([.int (n2 : Int), .ref d2] : List V) 1 = some (.ref d2) := zJ (j := 1) rfl;refine ⟨_, rfl, c1, _, _, _, rfl, rfl, SqT.of hc1, i0, _, rfl, pl, f, rfl, SqL.of hpl, F.ne, _, _, rfl, rfl, _, _, rfl, ?_⟩;have top := F.top;have fl := F.len;dsimp only [List.set];rw [top];refine ⟨_, rfl, c1, _, _, _, rfl, rfl, SqT.of hc1, i1, _, rfl, c2, _, _, _, rfl, rfl, SqT.of hc2, j1, _, rfl, .l, d2, pl, (n2 : Int), f, xs2, ps2, rfl, hd2, ht2, SqL.of hpl, by omega, o2.hb, l2, fun r ys H1 s1 hr1 py => ?_⟩;have yl : ys.length = ps2.length := by rw [Paired.length py, Qj]
  refine ⟨d1, r, xs1, ys, rfl, rfl, s1 _ _ hd1, hr1, Qu (gJ (by omega)), fun t H2 s2 ht => ?_⟩;have py2 := xW (xG ht1 (s1.trans s2)) (xG py s2);have ql : (ps1 ++ ps2.map (zcz f)).length = (xs1 ++ ys).length := (Paired.length py2).symm;have s02 := s1.trans s2;have rz : ∀ H', Same H H' -> (9 < n \/ 8 < (ps1 ++ ps2.map (zcz f)).length) -> E (.ref C) none H' := fun H' s' z => B.2 z H' s';dsimp only [List.set];refine ⟨_, rfl, _, _, rfl, rfl, _, rfl, ?_⟩;by_cases h9 : 9 < n
  ·rw [Qb (show (9 : Int) < (n : Int) by omega)];refine xK ⟨_, rfl, by decide +kernel, 9, rfl, by decide +kernel, _, rfl, by decide +kernel, _, rfl, by decide +kernel, 8, rfl, by decide +kernel, _, rfl, by decide +kernel, _, rfl, by decide +kernel, by decide +kernel, by show 1 <= 100; decide, rz _ s02 (.inl h9)⟩
  ·rw [Qv (show ¬ (9 : Int) < (n : Int) by omega)];refine yR ⟨_, rfl, t, _, rfl, .inr (SqT.of ht), _, _, rfl, rfl, _, rfl, ?_⟩;rw [<- ql];by_cases h8 : 8 < (ps1 ++ ps2.map (zcz f)).length
   ·rw [Qb (show (8 : Int) < ((ps1 ++ ps2.map (zcz f)).length : Int) by omega)];refine xK ⟨_, rfl, by decide +kernel, 9, rfl, by decide +kernel, _, rfl, by decide +kernel, _, rfl, by decide +kernel, 8, rfl, by decide +kernel, _, rfl, by decide +kernel, _, rfl, by decide +kernel, by decide +kernel, by show 1 <= 100; decide, rz _ s02 (.inr h8)⟩
   ·rw [Qv (show ¬ (8 : Int) < ((ps1 ++ ps2.map (zcz f)).length : Int) by omega)];refine yR ⟨_, rfl, _, rfl, by show 2 <= sizeLine; decide, fun e he => ?_⟩;have s3 := Same.new (o := HO.tup [.int (n : Int), .ref t]) he;exact B.1 (by omega) (by omega) (.ref e) _ (s02.trans s3) ⟨e, t, _, rfl, zB, s3 _ _ ht, xG py2 s3⟩
theorem zzn : (["point", "one"] : List Str).Nodup := by decide +kernel
theorem scLaidAt : zR ["one", "p", "other", "q", "ahead", "behind"] ["one", "p", "other", "q"] (zH zaz) := ⟨rfl, rfl, rfl, by decide +kernel, rfl, by decide +kernel, by decide +kernel⟩
theorem zHk {C : Addr} (T : Txt K mg) (S : Src K mg "laid_at" zaz ["one", "p", "other", "q"]) (DP : Def P w K mg base 3 "refuse_no_point_of" ["web", "point"] zcq) (DW : y9 P w K mg base 3 "laid_with" ["one", "other", "places"] (zBk C)) : y9 P w K mg base 4 "laid_at" ["one", "p", "other", "q"] (zBj C) := by
 refine Src.defQ S scLaidAt (fun vs H Q E h => ?_) (fun f cdv A outer s H vs Q E hr h => ?_)
 ·obtain ⟨_, _, _, _, _, _, _, _, rfl, _⟩ := h; rfl
 ·obtain ⟨ov, tv, n1, n2, p, q, ps1, ps2, rfl, W1, W2, o2, n9, l1, l2, hp, hq, B⟩ := h;obtain ⟨c1, d1, xs1, rfl, hc1, hd1, ht1⟩ := id W1.ex;obtain ⟨c2, d2, xs2, rfl, hc2, hd2, ht2⟩ := id W2.ex;refine ⟨_, zD (xI (yC DP hr rfl (zA (pv 0) (zA (pv 1) zC))))
   (zD (xI (yC DP hr rfl (zA (pv 2) (zA (pv 3) zC))))
   (zD (vW (i := 4) scLaidAt.nd rfl (Or.inl rfl) (N' := ["point", "one"]) (fr := [none, some 0]) (yH (by rfl)) rfl (qC rfl T.range (zA (pv 3) zC)) (fun _ _ _ _ => yE (i := 0) zzn rfl (Or.inl rfl) (Or.inr rfl)) (fun _ _ _ _ => yX)
    (fun _ _ _ _ => zN w8 (zT (r := gG K) (zY K) (pv 1) zF (fun _ _ => rfl)) (pv 0)))
   (zD (vW (i := 5) scLaidAt.nd rfl (Or.inl rfl) (N' := ["point", "one"]) (fr := [none, some 0]) (yH (by rfl)) rfl (zgc rfl T.range (zA (zN w8 (pv 3) zF) (zA (zT (zY K) (pv 2) zF (fun _ _ => rfl)) zC))) (fun _ _ _ _ => yE (i := 0) zzn rfl (Or.inl rfl) (Or.inr rfl)) (fun _ _ _ _ => yX)
    (fun _ _ _ _ => zN j5 (zN w8 (zT (r := gG K) (zY K) (pv 1) zF (fun _ _ => rfl)) (pv 0)) zF))
   (zG (zV (yB DW hr rfl (zA (pv 0) (zA (pv 2) (zA (zN yZ (zN yZ (pv 4) (yF (zA (pv 1) zC))) (pv 5)) zC))))))))), ?_⟩
  have i0 : atI ([.int (n1 : Int), .ref d1] : List V) 0 = some (.int (n1 : Int)) := zJ (j := 0) rfl;have j0 : atI ([.int (n2 : Int), .ref d2] : List V) 0 = some (.int (n2 : Int)) := zJ (j := 0) rfl;refine ⟨_, rfl, _, rfl, .ref c1, (n1 : Int), ps1, (p : Int), rfl, W1, by omega, by omega, ?_⟩;refine ⟨_, rfl, _, rfl, .ref c2, (n2 : Int), ps2, (q : Int), rfl, W2, by omega, by omega, ?_⟩;refine ⟨_, rfl, (q : Int), rfl, by omega, by omega, ?_⟩;rw [Jx];refine gU (lo := 0) (n := q) (fun σ => ∃ u, σ = [u, some (.ref c1)]) (fun i ys H2 => H2 = H /\ ys = ((ups (i : Int)).map fun i => (n1 : Int) + i).map V.int) ⟨_, rfl⟩ ⟨rfl, rfl⟩ (gJ (by omega)) ?_ ?_
  ·rintro i ys σ H2 N hi ⟨u, rfl⟩ ⟨rfl, rfl⟩ hN;rw [show (0 : Int) + (i : Int) = (i : Int) by omega];dsimp only [xH, List.set];refine zaw ⟨_, rfl, c1, _, _, _, rfl, rfl, SqT.of hc1, i0, _, rfl, _, _, rfl, rfl, ?_⟩;refine hN _ _ _ ⟨_, rfl⟩ ⟨rfl, ?_⟩ (by simp);rw [show ((i + 1 : Nat) : Int) = (i : Int) + 1 by omega, zjx (by omega), Qp, Qp];rfl
  ·rintro ys H2 ⟨rfl, rfl⟩ p3 hp3;have s3 := Same.new (o := HO.lst ((zln n1 q).map V.int)) hp3;have h3 : (upd H2 p3 (.lst ((zln n1 q).map V.int))) p3 = some (.lst ((zln n1 q).map V.int)) := zB;have al : (zln n1 q).length = q := by unfold zln; rw [Qj, xY]; omega
   unfold zln at s3 h3 al;generalize upd H2 p3 (.lst (((ups (q : Int)).map fun i => (n1 : Int) + i).map V.int)) = H3 at s3 h3 ⊢;dsimp only [List.set];refine ⟨_, rfl, _, _, rfl, rfl, _, rfl, c2, _, _, _, rfl, rfl, SqT.of (s3 _ _ hc2), j0, (q : Int) + 1, (n2 : Int), rfl, ⟨by omega, by omega, by omega, by omega⟩, ?_⟩;rw [show ((n2 : Int) - ((q : Int) + 1)).toNat = n2 - (q + 1) by omega];refine gU (lo := (q : Int) + 1) (n := n2 - (q + 1)) (fun σ => ∃ u, σ = [u, some (.ref c1)]) (fun i ys H4 => H4 = H3 /\ ys = (zfm n1 q i).map V.int) ⟨_, rfl⟩ ⟨rfl, rfl⟩ (gJ (by omega)) ?_ ?_
   ·rintro i ys σ H4 N hi ⟨u, rfl⟩ ⟨rfl, rfl⟩ hN;dsimp only [xH, List.set];refine zaw ⟨_, rfl, c1, _, _, _, rfl, rfl, SqT.of (s3 _ _ hc1), i0, _, rfl, _, _, rfl, rfl, _, _, rfl, rfl, ?_⟩;refine hN _ _ _ ⟨_, rfl⟩ ⟨rfl, ?_⟩ (by simp);unfold zfm;rw [List.range_succ, Qp, Qp];rfl
   ·rintro ys H4 ⟨rfl, rfl⟩ p5 hp5;have s5 := Same.new (o := HO.lst ((zfm n1 q (n2 - (q + 1))).map V.int)) hp5;have h5 : (upd H4 p5 (.lst ((zfm n1 q (n2 - (q + 1))).map V.int))) p5 = some (.lst ((zfm n1 q (n2 - (q + 1))).map V.int)) := zB;have h35 := s5 _ _ h3;have s05 := s3.trans s5;have bl : (zfm n1 q (n2 - (q + 1))).length = n2 - (q + 1) := by unfold zfm; rw [Qj, List.length_range]
    generalize upd H4 p5 (.lst ((zfm n1 q (n2 - (q + 1))).map V.int)) = H5 at s5 h5 h35 s05 ⊢;dsimp only [List.set];refine ⟨_, rfl, _, rfl, _, rfl, _, rfl, by show 1 <= sizeLine; decide, fun e he => ?_⟩;have s6 := Same.new (o := HO.lst [.int (p : Int)]) he;have h6 : (upd H5 e (.lst [.int (p : Int)])) e = some (.lst [.int (p : Int)]) := zB;have h36 := s6 _ _ h35;have h56 := s6 _ _ h5;have s06 := s05.trans s6;generalize upd H5 e (.lst [.int (p : Int)]) = H6 at s6 h6 h36 h56 s06 ⊢;refine ⟨p3, e, _, _, rfl, rfl, h36, h6, Qu (gJ (by rw [Qj, al]; show q + 1 <= 100; omega)), fun g hg => ?_⟩;have s7 := Same.new (o := HO.lst ((((ups (q : Int)).map fun i => (n1 : Int) + i).map V.int) ++ [.int (p : Int)])) hg;refine ⟨_, rfl, g, p5, _, _, rfl, rfl, zB, s7 _ _ h56, Qu (gJ (by rw [Ql, Qj, Qj (as := zfm n1 q (n2 - (q + 1))), bl, al]; show q + 1 + (n2 - (q + 1)) <= 100; omega)), fun k hk => ?_⟩;have e8 : (((ups (q : Int)).map fun i => (n1 : Int) + i).map V.int ++ [V.int (p : Int)]) ++ (zfm n1 q (n2 - (q + 1))).map V.int = (zfh n1 p q n2).map V.int := by
     unfold zfh zln;rw [Qp, Qp];rfl
    rw [e8];have s8 := Same.new (o := HO.lst ((zfh n1 p q n2).map V.int)) hk;have s08 := s06.trans (s7.trans s8);exact ⟨.ref c1, .ref c2, k, n1, n2, n1 + n2 - 1, zfh n1 p q n2, ps1, ps2, rfl, W1.same s08, W2.same s08, zB, zDw hp hq, o2, l1, l2, B.same s08⟩
theorem zth : zR ["one", "other"] ["one", "other"] (zH zdr) := ⟨rfl, rfl, rfl, by decide +kernel, rfl, by decide +kernel, by decide +kernel⟩
theorem zHm {C : Addr} (T : Txt K mg) (S : Src K mg "laid_beside" zdr ["one", "other"]) (DW : y9 P w K mg base 3 "laid_with" ["one", "other", "places"] (zBk C)) : y9 P w K mg base 4 "laid_beside" ["one", "other"] (zBm C) := by
 refine Src.defQ S zth (fun vs H Q E h => ?_) (fun f cdv A outer s H vs Q E hr h => ?_)
 ·obtain ⟨_, _, _, _, _, _, rfl, _⟩ := h; rfl
 ·obtain ⟨ov, tv, n1, n2, ps1, ps2, rfl, W1, W2, o2, n9, l1, l2, B⟩ := h;obtain ⟨c1, d1, xs1, rfl, hc1, hd1, ht1⟩ := id W1.ex;obtain ⟨c2, d2, xs2, rfl, hc2, hd2, ht2⟩ := id W2.ex;refine ⟨_, zG (zV (yB DW hr rfl (zA (pv 0) (zA (pv 1) (zA (wL (N' := ["point", "one"]) (fr := [none, some 0]) (yH (by rfl)) rfl (qC rfl T.range (zA (zT (zY K) (pv 1) zF (fun _ _ => rfl)) zC)) (fun _ _ _ _ => yE (i := 0) zzn rfl (Or.inl rfl) (Or.inr rfl)) (fun _ _ _ _ => yX)
   (fun _ _ _ _ => zN w8 (zT (r := gG K) (zY K) (pv 1) zF (fun _ _ => rfl)) (pv 0))) zC))))), ?_⟩
  have i0 : atI ([.int (n1 : Int), .ref d1] : List V) 0 = some (.int (n1 : Int)) := zJ (j := 0) rfl;have j0 : atI ([.int (n2 : Int), .ref d2] : List V) 0 = some (.int (n2 : Int)) := zJ (j := 0) rfl;refine ⟨_, rfl, _, rfl, _, rfl, c2, _, _, _, rfl, rfl, SqT.of hc2, j0, (n2 : Int), rfl, by omega, by omega, ?_⟩;rw [Jx];refine gU (lo := 0) (n := n2) (fun σ => ∃ u, σ = [u, some (.ref c1)]) (fun i ys H2 => H2 = H /\ ys = ((ups (i : Int)).map fun i => (n1 : Int) + i).map V.int) ⟨_, rfl⟩ ⟨rfl, rfl⟩ (gJ (by omega)) ?_ ?_
  ·rintro i ys σ H2 N hi ⟨u, rfl⟩ ⟨rfl, rfl⟩ hN;rw [show (0 : Int) + (i : Int) = (i : Int) by omega];dsimp only [xH, List.set];refine zaw ⟨_, rfl, c1, _, _, _, rfl, rfl, SqT.of hc1, i0, _, rfl, _, _, rfl, rfl, ?_⟩;refine hN _ _ _ ⟨_, rfl⟩ ⟨rfl, ?_⟩ (by simp);rw [show ((i + 1 : Nat) : Int) = (i : Int) + 1 by omega, zjx (by omega), Qp, Qp];rfl
  ·rintro ys H2 ⟨rfl, rfl⟩ p3 hp3;have s3 := Same.new (o := HO.lst ((zso n1 n2).map V.int)) hp3;exact ⟨.ref c1, .ref c2, p3, n1, n2, n1 + n2, zso n1 n2, ps1, ps2, rfl, W1.same s3, W2.same s3, zB, zFd o2.n1, o2, l1, l2, B.same s3⟩
end
structure NTA (K : W.Frag) (mg : Str -> Option Value) (C Wc : Addr) (bm : List Value) : Prop where
 gC : mg "NotApart" = some (.ref C)
 gW : mg "WebError" = some (.ref Wc)
 ib : jU K C bm = true
 init : ∃ f fd oI, PySem.W.findIn K (.ref C) "__init__" = some (some (.ref f)) /\ K.lookup f = some oI /\ oI.cls = .type "function" /\ Fun K "__init__" "NotApart.__init__" qU f fd /\ Binds K fd ["self", "point"] []
 s1 : PySem.W.specialIn K (.ref Wc) "__getattribute__" = some (some (.builtin "type.__getattribute__"))
 r1 : PySem.W.readsIn K Wc (.type "type") = true
 f1 : PySem.W.findCls K (.ref Wc) (.type "type") "__init__" = some (.val (.builtin "ValueError.__init__"))
 sa : PySem.W.findIn K (.ref C) "__setattr__" = some (some (.builtin "object.__setattr__"))
 mr : zdu K C = true
 na : PySem.W.findIn K (.ref C) "point" = some none
def zkd (C : Addr) : Sp := fun vs H Q _ => ∃ (e : Addr) (k : Int), vs = [.ref e, .int k] /\ 0 <= k /\ k <= 9 /\ H e = some (gN e C none) /\ ∀ dx, H dx = none -> dx ≠ e -> Q .non (upd (upd H dx (.xd [("point", .int k)])) e (gN e C (some dx)))
theorem zrs {k : Int} (k0 : 0 <= k) (k9 : k <= 9) : (Str.empty ++ ("not apart at the point " : Str)).length <= sizeLine /\ ((Str.empty ++ ("not apart at the point " : Str)) ++ (toString k : Str)).length <= sizeLine /\ k.natAbs.log2 < 1920 := by
 obtain ⟨j, rfl⟩ := Q0 k0;have : j = 0 \/ j = 1 \/ j = 2 \/ j = 3 \/ j = 4 \/ j = 5 \/ j = 6 \/ j = 7 \/ j = 8 \/ j = 9 := by lia
 rcases this with rfl | rfl | rfl | rfl | rfl | rfl | rfl | rfl | rfl | rfl <;> decide +kernel
def zxl (u v : Int) (ps : List (Int × Int)) (ks : List Int) (x : Int) : Prop := x ≠ u /\ x ≠ v /\ zlb ps ks x = true /\ zlb ps (v5 ps.length ks) x = true
def znu (n u v : Int) (ps : List (Int × Int)) (ks : List Int) (x : Int) : Prop := 0 <= x /\ x < n /\ zxl u v ps ks x /\ ∀ y, 0 <= y -> y < x -> ¬ zxl u v ps ks y
def zkc (K : W.Frag) (C : Addr) : Sp := fun vs H _ E => ∃ (wv : V) (pk : Addr) (n : Int) (ps : List (Int × Int)) (ks : List Int) (u v x : Int), vs = [wv, .ref pk, .int u, .int v] /\ WebAt H wv n ps /\ qH n ps /\ SqT K H pk (ks.map V.int) /\ Ks ps.length ks /\ ks.length <= 8 /\ znu n u v ps ks x /\ ∀ dx H', Same H H' -> H' dx = some (.xd [("point", .int x)]) -> E (.ref C) (some dx) H'
def zob (K : W.Frag) (C : Addr) : Sp := fun vs H _ E => ∃ (wv : V) (pk : Addr) (n : Int) (ps : List (Int × Int)) (ks : List Int) (u v x : Int), vs = [wv, .ref pk, .int u, .int v] /\ WebAt H wv n ps /\ qH n ps /\ SqT K H pk (ks.map V.int) /\ Ks ps.length ks /\ ks.length <= 8 /\ (0 <= u /\ u < n) /\ (0 <= v /\ v < n) /\ u ≠ v /\ znu n u v ps ks x /\ ∀ dx H', Same H H' -> H' dx = some (.xd [("point", .int x)]) -> E (.ref C) (some dx) H'
def zxe (K : W.Frag) (H : Hp) (n m : Int) (x y : V) : Prop := zsj K H n x \/ ∃ p : Int, x = .int p /\ (0 <= p /\ p < n) /\ zsj K H m y
def zoc (K : W.Frag) (C : Addr) : Sp := fun vs H _ E => ∃ (wv z x y : V) (n : Int) (ps : List (Int × Int)), vs = [wv, z, x, y] /\ WebAt H wv n ps /\ (zxe K H n n x y \/ ∃ p : Int, x = .int p /\ y = .int p /\ 0 <= p /\ p < n) /\ E (.ref C) none H
def zwd (K : W.Frag) (C : Addr) : Sp := fun vs H _ E => ∃ (wv tv x y : V) (n m : Int) (ps qs : List (Int × Int)), vs = [wv, x, tv, y] /\ WebAt H wv n ps /\ WebAt H tv m qs /\ zxe K H n m x y /\ E (.ref C) none H
section
variable {P : Program} {w : World} {K : W.Frag} {mg : Str -> Option Value} {base : Heap}
theorem ztb : zR ["self", "point"] ["self", "point"] (zH qU) := ⟨rfl, rfl, rfl, by decide +kernel, rfl, by decide +kernel, by decide +kernel⟩
theorem zqe {f C Wc : Addr} {fd : FuncData} {bm : List Value} (F : Fun K "__init__" "NotApart.__init__" qU f fd) (N : NTA K mg C Wc bm) : v9 P w K mg base CX0 1 f fd ["self", "point"] (zkd C) := by
 refine F.ok ztb (fun vs H Q E h => ?_) (fun cdv A outer s H vs Q E hr h => ?_)
 ·obtain ⟨_, _, rfl, _⟩ := h; rfl
 ·obtain ⟨e, k, rfl, k0, k9, he, q⟩ := h;refine ⟨_, zD (zkm (bm := bm) rfl N.gW N.s1 N.r1 N.f1 (zA (pv 0) (zA (wZ (yW zE (yW (vR (pv 1)) j4))) zC))) (zG (zom (pv 0) (pv 1))), ?_⟩;obtain ⟨l1, l2, l3⟩ := zrs k0 k9;exact ⟨_, rfl, _, rfl, l1, _, rfl, k, rfl, l3, _, rfl, l2, l2, e, C, _, rfl, he, N.ib, _, rfl, _, rfl, e, C, rfl, he, N.sa, N.mr, N.na, fun dx h1 h2 => q dx h1 h2⟩
theorem zvc {C Wc : Addr} {bm : List Value} (T : Txt K mg) (N : NTA K mg C Wc bm) (S : Src K mg "refuse_not_apart" zez ["web", "pick", "u", "v"]) (DW : Def P w K mg base 1 "whole_pick" ["web"] zvw) (DE : Def P w K mg base 1 "is_end_in" ["web", "ties", "point"] (zhj K)) : y9 P w K mg base 3 "refuse_not_apart" ["web", "pick", "u", "v"] (zkc K C) := by
 obtain ⟨fI, fdI, oI, hi, hfI, hfc, FI, bI⟩ := N.init;have FO : v9 P w K mg base CX0 1 fI fdI ["self", "point"] (zkd C) := zqe FI N;refine Src.defQ S scNotAp (fun vs H Q E h => ?_) (fun f cdv A outer s H vs Q E hr h => ?_)
 ·obtain ⟨_, _, _, _, _, _, _, _, rfl, _⟩ := h; rfl
 ·obtain ⟨wv, pk, n, ps, ks, u, v, x, rfl, W, ⟨⟨n1, n9⟩, hb, h8⟩, hk, hks, k8, ⟨x0, xn, mx, lx⟩, q⟩ := h;obtain ⟨c, d, xs, rfl, hc, hd, ht⟩ := id W.ex;obtain ⟨m, rfl⟩ := Q0 (show 0 <= n by lia);have hr1 : Room 1 _ := hr.mono (by decide);refine ⟨_, zD (vW (i := 4) scNotAp.nd rfl (Or.inl rfl) (N' := ["k", "pick"]) (fr := [none, some 1]) (yH (by rfl)) rfl (wK K .t (yC DW hr1 rfl (zA (pv 0) zC)))
    (fun _ _ _ _ => yE (i := 0) zId rfl (Or.inl rfl) (Or.inr rfl)) (fun _ _ _ _ => zkn (zP (r := rIn K true) vL (pv 0) (pv 1) rfl)) (fun _ _ _ _ => pv 0))
   (zG (zaa PassesOwn.leaving rfl (qC rfl T.range (zA (zT (zY K) (pv 0) zF (fun _ _ => rfl)) zC)) (yE (i := 5) scNotAp.nd rfl (Or.inl rfl))
    (zG (yL (PW.pt (hZ (zP vL (pv 5) (wH (zA (pv 2) (zA (pv 3) zC))) rfl) (hZ (wG (yC DE hr1 rfl (zA (pv 0) (zA (pv 1) (zA (pv 5) zC))))) (zbb (wG (yC DE hr1 rfl (zA (pv 0) (zA (pv 4) (zA (pv 5) zC))))))))) (zG (zgb FO bI hr rfl N.gC N.ib hi hfI hfc (zA (pv 5) zC))) zQ)))), ?_⟩
  have i0 : atI ([.int (m : Int), .ref d] : List V) 0 = some (.int (m : Int)) := zJ (j := 0) rfl;refine ⟨_, rfl, .ref c, (m : Int), ps, rfl, W, h8, fun t H1 s1 ht1 => ⟨t, rfl, ⟨_, SqT.of ht1⟩, ?_⟩⟩;refine wY (k := .t) (a := t) (xs := (ups ps.length).map V.int) (fun σ => ∃ u, σ = [u, some (.ref pk)]) (fun i ys H2 => H2 = H1 /\ ys = (((ups ps.length).take i).filter fun k => !decide (k ∈ ks)).map V.int) ⟨_, rfl⟩ ⟨rfl, rfl⟩ (by rw [Qj, xY]; exact qI (by lia)) (fun i ys H2 _ z => by rw [z.1]; exact SqT.of ht1) ?_ ?_
  ·rintro i y ys σ H2 N hx ⟨u, rfl⟩ ⟨rfl, rfl⟩ hN;obtain ⟨k, ek, rfl⟩ := kM hx;dsimp only [xH, List.set];refine ⟨_, rfl, _, rfl, pk, ks.map V.int, rfl, .inr (s1.tup hk), rfl, zau _, _, rfl, ?_⟩;rw [if_pos rfl, qX];refine zfi (fun z => ⟨_, rfl, ?_⟩) (fun z => ?_)
   ·refine hN _ _ _ ⟨_, rfl⟩ ⟨rfl, ?_⟩ (by simp);rw [k7 _ ek, if_pos z, Qp];rfl
   ·refine hN _ _ _ ⟨_, rfl⟩ ⟨rfl, ?_⟩ (by simp);rw [k7 _ ek, if_neg z, Jp]
  ·rintro ys H2 ⟨rfl, rfl⟩ p3 hp3;have el : ((ups (ps.length : Int)).map V.int).length = ps.length := by rw [Qj, xY]; lia
   rw [el, Jh (by rw [xY]; lia)];have s3 := s1.trans (Same.new (o := HO.lst ((v5 ps.length ks).map V.int)) hp3);have h3 : (upd H2 p3 (.lst ((v5 ps.length ks).map V.int))) p3 = some (.lst ((v5 ps.length ks).map V.int)) := zB;unfold v5 at s3 h3;generalize upd H2 p3 (.lst (((ups ps.length).filter fun k => !decide (k ∈ ks)).map V.int)) = H3 at s3 h3 ⊢;dsimp only [List.set];refine ⟨_, rfl, c, _, _, _, rfl, rfl, SqT.of (s3 _ _ hc), i0, (m : Int), rfl, by lia, by lia, ?_⟩;rw [Jx];refine zbt (lo := 0) (n := m) (fun j σ H' => (∃ z, σ = [some (.ref c), some (.ref pk), some (.int u), some (.int v), some (.ref p3), z]) /\ Same H3 H' /\ (j : Int) <= x) ⟨⟨_, rfl⟩, Same.refl _, x0⟩ ?_ ?_
   ·rintro j σ H4 hj ⟨⟨z, rfl⟩, sm, jx⟩;rw [show (0 : Int) + (j : Int) = (j : Int) by lia];have go : ¬ zxl u v ps ks (j : Int) -> ((j + 1 : Nat) : Int) <= x := fun nm => by
     have : (j : Int) ≠ x := fun e => nm (by rw [e]; exact mx);lia
    dsimp only [xH, List.set];refine ⟨_, rfl, _, rfl, _, rfl, by show 2 <= sizeLine; decide, fun g hg => ⟨g, [.int u, .int v], rfl, .inr (SqT.of zB), rfl, rfl, _, rfl, ?_⟩⟩;have s5 := sm.trans (Same.new (o := HO.tup [.int u, .int v]) hg);generalize upd H4 g (.tup [.int u, .int v]) = H5 at s5 ⊢;rw [if_pos rfl, show inV (.int (j : Int)) [V.int u, V.int v] = decide ((j : Int) ∈ [u, v]) from qX (j : Int) [u, v]];refine zfi (fun z1 => ?_) (fun z1 => yR ⟨⟨_, rfl⟩, s5, go fun mm => z1 ?_⟩)
    rotate_left
    ·rw [Qv (fun y => by rw [Qy, Q3] at y; exact y.elim mm.1 mm.2.1)];rfl
    have nu : ¬ (j : Int) ∈ [u, v] := fun y => by rw [Qb y] at z1; cases z1
    have j1 : (j : Int) ≠ u := fun y => nu (by rw [y]; simp);have j2 : (j : Int) ≠ v := fun y => nu (by rw [y]; simp);refine ⟨_, rfl, _, rfl, _, rfl, .t, .ref c, pk, (m : Int), ps, ks, (j : Int), rfl, W.same (s3.trans s5), (s3.trans s5).tup hk, hks, k8, fun H6 s6 => ⟨_, rfl, ?_⟩⟩;have s56 := s5.trans s6;refine zfi (fun z2 => ?_) (fun z2 => yR ⟨⟨_, rfl⟩, s56, go fun mm => z2 mm.2.2.1⟩);refine ⟨_, rfl, _, rfl, _, rfl, .l, .ref c, p3, (m : Int), ps, v5 ps.length ks, (j : Int), rfl, W.same (s3.trans s56), SqL.of (s56 _ _ h3), zki _ _, Qc (zga _ _) h8, fun H7 s7 => ⟨_, rfl, ?_⟩⟩;refine zfi (fun z3 => ?_) (fun z3 => ⟨⟨_, rfl⟩, s56.trans s7, go fun mm => z3 mm.2.2.2⟩);have ejx : (j : Int) = x := by
     rcases Int.lt_or_le (j : Int) x with c1 | c1
     ·exact absurd ⟨j1, j2, z2, z3⟩ (lx _ (by lia) c1)
     ·lia
    have s37 := s3.trans (s56.trans s7);refine ⟨_, rfl, by show 1 <= 100; decide, fun e he => ⟨e, (j : Int), rfl, by lia, by lia, zB, fun dx hdx hne => ⟨rfl, some dx, zB, ?_⟩⟩⟩;have sm3 : Same H7 (rem (upd (upd (upd H7 e (gN e C none)) dx (.xd [("point", .int (j : Int))])) e (gN e C (some dx))) e) := fun b o hb => by
     have n1 : b ≠ e := fun z => by rw [z, he] at hb; cases hb
     have n2 : b ≠ dx := fun z => by
      rw [zS hne] at hdx;rw [z, hdx] at hb;cases hb
     rw [hX n1, zS n1, zS n2, zS n1];exact hb
    refine q dx _ (s37.trans sm3) ?_;rw [hX hne, zS hne, zB, ejx]
   ·rintro σ H4 ⟨⟨z, rfl⟩, sm, jx⟩;lia
theorem zAh {C : Addr} {bm : List Value} (T : Txt K mg) (S : Src K mg "turned_over" zih ["web", "pick", "u", "v"]) (gC : mg "NoPoint" = some (.ref C)) (xC : vH K C bm = true) (DP : Def P w K mg base 3 "refuse_no_point_of" ["web", "point"] zcq) (DB : y9 P w K mg base 3 "refuse_no_point_of" ["web", "point"] (zhi K C)) (DN : Def P w K mg base 2 "refuse_not_apart" ["web", "pick", "u", "v"] (zhh K)) (DA : Def P w K mg base 2 "ties_at" ["ties", "places"] (kH K)) (DW : Def P w K mg base 1 "whole_pick" ["web"] zvw) : y9 P w K mg base 4 "turned_over" ["web", "pick", "u", "v"] (zoc K C) := by
 refine Src.defQ S scTurn (fun vs H Q E h => ?_) (fun f cdv A outer s H vs Q E hr h => ?_)
 ·obtain ⟨_, _, _, _, _, _, rfl, _⟩ := h; rfl
 ·obtain ⟨wv, z, x, y, n, ps, rfl, W, alt, q⟩ := h;have hr1 : Room 1 _ := hr.mono (by decide);have hr2 : Room 2 _ := hr.mono (by decide);refine ⟨_, zD (xI (zac (yB DB hr rfl (zA (pv 0) (zA (pv 2) zC))) (yC DP hr rfl (zA (pv 0) (zA (pv 2) zC)))))
   (zD (xI (zac (yB DB hr rfl (zA (pv 0) (zA (pv 3) zC))) (yC DP hr rfl (zA (pv 0) (zA (pv 3) zC)))))
   (zD (yL (zP wA (pv 2) (pv 3) (yA _)) (zG (yO rfl gC xC (zA zE zC))) zQ)
   (zD (xI (yC DN hr2 rfl (zA (pv 0) (zA (pv 1) (zA (pv 2) (zA (pv 3) zC))))))
   (zD (zU (i := 4) scTurn.nd rfl (Or.inl rfl) (yG (qT rfl) rfl T.list gZ (zA (yG qQ rfl T.range qS (zA (zT (zY K) (pv 0) zF (fun _ _ => rfl)) zC)) zC)))
   (zD (zab (pv 3) (zct (pv 4) (pv 2) jF))
   (zD (zab (pv 2) (zct (pv 4) (pv 3) jF))
   (zD (zU (i := 5) scTurn.nd rfl (Or.inr rfl) (yC DA hr2 rfl (zA (zT (zY K) (pv 0) zF (fun _ _ => rfl)) (zA (pv 4) zC))))
   (zG (zV (wH (zA (zT (zY K) (pv 0) zF (fun _ _ => rfl)) (zA (yG (x6 K) rfl T.tuple wD (zA (wL (N' := ["k", "pick", "turned", "web"]) (fr := [none, some 1, some 5, some 0]) (yH (by rfl)) rfl (wK K .t (yC DW hr1 rfl (zA (pv 0) zC)))
    (fun _ _ _ _ => yE (i := 0) znp rfl (Or.inl rfl) (Or.inr rfl)) (fun _ _ _ _ => yX)
    (fun _ _ _ _ => qK (zP (r := rIn K false) qZ (pv 0) (pv 1) rfl) (zT (r := gG K) (zY K) (pv 2) (pv 0) (fun _ _ => rfl)) (zT (r := gG K) (zY K) (zT (r := gG K) (zY K) (pv 3) zF (fun _ _ => rfl)) (pv 0) (fun _ _ => rfl)))) zC)) zC)))))))))))), ?_⟩
  rcases alt with (bx | ⟨p, rfl, hp, by'⟩) | ⟨p, rfl, rfl, p0, pn⟩
  ·exact .inl ⟨_, rfl, _, rfl, wv, x, n, ps, rfl, W, bx, q⟩
  ·exact .inr ⟨_, rfl, _, rfl, wv, n, ps, p, rfl, W, hp.1, hp.2, .inl ⟨_, rfl, _, rfl, wv, y, n, ps, rfl, W, by', q⟩⟩
  ·refine .inr ⟨_, rfl, _, rfl, wv, n, ps, p, rfl, W, p0, pn, .inr ⟨_, rfl, _, rfl, wv, n, ps, p, rfl, W, p0, pn, ?_⟩⟩;refine ⟨_, rfl, _, rfl, rfl, _, rfl, ?_⟩;rw [Qb rfl];exact xK ⟨by decide, q⟩
theorem zAg {C : Addr} {CP : Addr} {bm : List Value} (T : Txt K mg) (S : Src K mg "turned_over" zih ["web", "pick", "u", "v"]) (gC : mg "NoPoint" = some (.ref CP)) (xC : vH K CP bm = true) (DP : Def P w K mg base 3 "refuse_no_point_of" ["web", "point"] zcq) (DN : y9 P w K mg base 3 "refuse_not_apart" ["web", "pick", "u", "v"] (zkc K C)) (DA : Def P w K mg base 2 "ties_at" ["ties", "places"] (kH K)) (DW : Def P w K mg base 1 "whole_pick" ["web"] zvw) : y9 P w K mg base 4 "turned_over" ["web", "pick", "u", "v"] (zob K C) := by
 refine Src.defQ S scTurn (fun vs H Q E h => ?_) (fun f cdv A outer s H vs Q E hr h => ?_)
 ·obtain ⟨_, _, _, _, _, _, _, _, rfl, _⟩ := h; rfl
 ·obtain ⟨wv, pk, n, ps, ks, u, v, x, rfl, W, ok, hk, hks, k8, hu, hv, uv, lx, q⟩ := h;have hr1 : Room 1 _ := hr.mono (by decide);have hr2 : Room 2 _ := hr.mono (by decide);refine ⟨_, zD (xI (yC DP hr rfl (zA (pv 0) (zA (pv 2) zC))))
   (zD (xI (yC DP hr rfl (zA (pv 0) (zA (pv 3) zC))))
   (zD (yL (zP wA (pv 2) (pv 3) (yA _)) (zG (yO rfl gC xC (zA zE zC))) zQ)
   (zD (xI (yB DN hr rfl (zA (pv 0) (zA (pv 1) (zA (pv 2) (zA (pv 3) zC))))))
   (zD (zU (i := 4) scTurn.nd rfl (Or.inl rfl) (yG (qT rfl) rfl T.list gZ (zA (yG qQ rfl T.range qS (zA (zT (zY K) (pv 0) zF (fun _ _ => rfl)) zC)) zC)))
   (zD (zab (pv 3) (zct (pv 4) (pv 2) jF))
   (zD (zab (pv 2) (zct (pv 4) (pv 3) jF))
   (zD (zU (i := 5) scTurn.nd rfl (Or.inr rfl) (yC DA hr2 rfl (zA (zT (zY K) (pv 0) zF (fun _ _ => rfl)) (zA (pv 4) zC))))
   (zG (zV (wH (zA (zT (zY K) (pv 0) zF (fun _ _ => rfl)) (zA (yG (x6 K) rfl T.tuple wD (zA (wL (N' := ["k", "pick", "turned", "web"]) (fr := [none, some 1, some 5, some 0]) (yH (by rfl)) rfl (wK K .t (yC DW hr1 rfl (zA (pv 0) zC)))
    (fun _ _ _ _ => yE (i := 0) znp rfl (Or.inl rfl) (Or.inr rfl)) (fun _ _ _ _ => yX)
    (fun _ _ _ _ => qK (zP (r := rIn K false) qZ (pv 0) (pv 1) rfl) (zT (r := gG K) (zY K) (pv 2) (pv 0) (fun _ _ => rfl)) (zT (r := gG K) (zY K) (zT (r := gG K) (zY K) (pv 3) zF (fun _ _ => rfl)) (pv 0) (fun _ _ => rfl)))) zC)) zC)))))))))))), ?_⟩
  refine ⟨_, rfl, _, rfl, wv, n, ps, u, rfl, W, hu.1, hu.2, _, rfl, _, rfl, wv, n, ps, v, rfl, W, hv.1, hv.2, _, rfl, _, rfl, rfl, _, rfl, ?_⟩;rw [Qv (show ¬ V.int u = V.int v from fun z => uv (by injection z))];exact yR ⟨_, rfl, _, rfl, _, rfl, _, rfl, wv, pk, n, ps, ks, u, v, x, rfl, W, ok, hk, hks, k8, lx, q⟩
theorem zEs {C : Addr} {CM : Addr} (T : Txt K mg) (S : Src K mg "laid_at" zaz ["one", "p", "other", "q"]) (DP : Def P w K mg base 3 "refuse_no_point_of" ["web", "point"] zcq) (DB : y9 P w K mg base 3 "refuse_no_point_of" ["web", "point"] (zhi K C)) (DW : y9 P w K mg base 3 "laid_with" ["one", "other", "places"] (zBk CM)) : y9 P w K mg base 4 "laid_at" ["one", "p", "other", "q"] (zwd K C) := by
 refine Src.defQ S scLaidAt (fun vs H Q E h => ?_) (fun f cdv A outer s H vs Q E hr h => ?_)
 ·obtain ⟨_, _, _, _, _, _, _, _, rfl, _⟩ := h; rfl
 ·obtain ⟨wv, tv, x, y, n, m, ps, qs, rfl, W, W2, alt, q⟩ := h;refine ⟨_, zD (xI (zac (yB DB hr rfl (zA (pv 0) (zA (pv 1) zC))) (yC DP hr rfl (zA (pv 0) (zA (pv 1) zC)))))
   (zD (xI (zac (yB DB hr rfl (zA (pv 2) (zA (pv 3) zC))) (yC DP hr rfl (zA (pv 2) (zA (pv 3) zC)))))
   (zD (vW (i := 4) scLaidAt.nd rfl (Or.inl rfl) (N' := ["point", "one"]) (fr := [none, some 0]) (yH (by rfl)) rfl (qC rfl T.range (zA (pv 3) zC)) (fun _ _ _ _ => yE (i := 0) zzn rfl (Or.inl rfl) (Or.inr rfl)) (fun _ _ _ _ => yX)
    (fun _ _ _ _ => zN w8 (zT (r := gG K) (zY K) (pv 1) zF (fun _ _ => rfl)) (pv 0)))
   (zD (vW (i := 5) scLaidAt.nd rfl (Or.inl rfl) (N' := ["point", "one"]) (fr := [none, some 0]) (yH (by rfl)) rfl (zgc rfl T.range (zA (zN w8 (pv 3) zF) (zA (zT (zY K) (pv 2) zF (fun _ _ => rfl)) zC))) (fun _ _ _ _ => yE (i := 0) zzn rfl (Or.inl rfl) (Or.inr rfl)) (fun _ _ _ _ => yX)
    (fun _ _ _ _ => zN j5 (zN w8 (zT (r := gG K) (zY K) (pv 1) zF (fun _ _ => rfl)) (pv 0)) zF))
   (zG (zV (yB DW hr rfl (zA (pv 0) (zA (pv 2) (zA (zN yZ (zN yZ (pv 4) (yF (zA (pv 1) zC))) (pv 5)) zC))))))))), ?_⟩
  rcases alt with bx | ⟨p, rfl, hp, by'⟩
  ·exact .inl ⟨_, rfl, _, rfl, wv, x, n, ps, rfl, W, bx, q⟩
  ·exact .inr ⟨_, rfl, _, rfl, wv, n, ps, p, rfl, W, hp.1, hp.2, .inl ⟨_, rfl, _, rfl, tv, y, m, qs, rfl, W2, by', q⟩⟩
end
end My
namespace My
open PySem L2 PySem.NumText PyProof.Rows
def cod (x : Str) : List Nat := x.cps.toList
theorem zad (x : Str) : mkS (cod x) = x := qV x
theorem zag (w : List Nat) : cod (mkS w) = w := yK w
theorem zhx (w : List Nat) (x : Str) : decide (V.str (mkS w) = V.str x) = decide (w = cod x) := by
 refine decide_eq_decide.mpr ⟨fun h => ?_, fun h => by rw [h, zad]⟩;rw [<- V.str.inj h, zag]
inductive vJ where | new | kept | number | counted | text
 deriving DecidableEq
def zsc : vJ -> Str
 | .new => "new" | .kept => "kept" | .number => "number" | .counted => "counted" | .text => "text"
theorem kL (k l : vJ) : decide (V.str (zsc k) = V.str (zsc l)) = decide (k = l) := by
 cases k <;> cases l <;> decide +kernel
def zbf : List Nat := [119, 101, 98]
def zfl : List Nat := [111, 117, 116]
def zcm : List Nat := [100, 114, 97, 119]
def zed : List Nat := [98, 101, 115, 105, 100, 101]
def gY : List Nat := [106, 111, 105, 110]
def qR : List Nat := [116, 117, 114, 110]
def zfp : List Nat := [115, 104, 111, 119]
def zCl : List Nat := [112, 111, 108, 121]
def zjb : List Nat := [119, 111, 114, 116, 104]
def zCk : List Nat := [115, 97, 109, 101]
def zxb : List Nat := [116, 114, 101, 101, 115]
def zFc : List Nat := [99, 111, 117, 110, 116]
def xQ : List Nat := [99, 111, 108, 111, 117, 114, 115]
def zcy : List Nat := [102, 108, 111, 119, 115]
def formsT : List (List Nat × List vJ) := [(zbf, [.new, .text]), (zfl, [.new, .kept, .number]), (zcm, [.new, .kept, .number]), (zed, [.new, .kept, .kept]), (gY, [.new, .kept, .number, .kept, .number]), (qR, [.new, .kept, .number, .number]), (zfp, [.kept]), (zCl, [.kept]), (zjb, [.kept, .number, .number]), (zCk, [.kept, .kept]), (zxb, [.kept]), (zFc, [.kept, .counted]), (xQ, [.kept, .number]), (zcy, [.kept, .number])]
def zCj : List (List Nat) := [[112, 105, 99, 107, 115], [116, 114, 101, 101, 115], [119, 111, 111, 100, 115], [104, 111, 108, 100, 101, 114, 115], [114, 105, 110, 103, 108, 101, 115, 115], [115, 112, 114, 117, 110, 103], [114, 105, 110, 103, 101, 100], [115, 99, 111, 114, 101, 115]]
theorem zpk : cod "web" = zbf := by decide +kernel
theorem zAs : cod "out" = zfl := by decide +kernel
theorem zvo : cod "draw" = zcm := by decide +kernel
theorem zmv : cod "beside" = zed := by decide +kernel
theorem zvn : cod "join" = gY := by decide +kernel
theorem zvk : cod "turn" = qR := by decide +kernel
theorem zli : cod "show" = zfp := by decide +kernel
theorem zvm : cod "poly" = zCl := by decide +kernel
theorem zvl : cod "same" = zCk := by decide +kernel
theorem zrk : cod "trees" = zxb := by decide +kernel
theorem zjt : cod "colours" = xQ := by decide +kernel
theorem zrl : cod "flows" = zcy := by decide +kernel
def qP (w : List Nat) : Option (List vJ) := formsT.lookup w
def hd (ws : List (List Nat)) : List Nat := ws.headD []
def xE (ws : List (List Nat)) : List vJ := (qP (hd ws)).getD [] ++ (if hd ws = qR then List.replicate (ws.length - 1 - 4) .number else [])
def yT (w : List Nat) : List Nat := if w.head? = some 45 then w.tail else w
def xL (w : List Nat) : Bool := decide (1 <= (yT w).length) && decide ((yT w).length <= 60) && (yT w).all xN && (!decide ((yT w).head? = some 48) || decide (w = [48]))
def ziz (c : Nat) : Bool := decide (97 <= c) && decide (c <= 122)
def zgg (w : List Nat) : Bool := decide (1 <= w.length) && decide (w.length <= 8) && w.all ziz
def zda (w : List Nat) : Int := if w.head? = some 45 then -((digitsVal w.tail : Nat) : Int) else ((digitsVal w : Nat) : Int)
def xX : vJ -> List Nat -> Bool
 | .number, w => xL w
 | .counted, w => decide (w ∈ zCj)
 | .text, _ => true
 | .new, w => !decide (w = [])
 | .kept, w => !decide (w = [])
def vM : List vJ -> List (List Nat) -> Bool
 | k :: ks, w :: ws => xX k w && vM ks ws
 | _, _ => true
def zZ (l : List Nat) : List (List Nat) := if hd (zL 32 [] l) = zbf then xF 32 2 [] l else zL 32 [] l
def vE (l : List Nat) : Option (List (List Nat)) := match qP (hd (zL 32 [] l)) with
 | none => none
 | some _ => if (zZ l).length = (xE (zZ l)).length + 1 then (if vM (xE (zZ l)) (zZ l).tail = true then some (zZ l) else none) else none
inductive Th where | txt (w : List Nat) | web (n : Int) (ps : List (Int × Int)) | num (i : Int)
abbrev qY := List (List Nat × (Int × List (Int × Int)))
def wF (ks : qY) : vJ -> List Nat -> Option Th
 | .new, w => if zgg w = true then some (.txt w) else none
 | .kept, w => match ks.lookup w with | some (n, ps) => some (.web n ps) | none => none
 | .number, w => some (.num (zda w))
 | .counted, w => some (.txt w)
 | .text, w => some (.txt w)
def xZ (ks : qY) : List vJ -> List (List Nat) -> Option (List Th)
 | k :: kr, w :: wr => match wF ks k w with
  | none => none
  | some t => match xZ ks kr wr with
   | none => none
   | some ts => some (t :: ts)
 | _, _ => some []
inductive Out where | exc (i : Fin 10) | str (w : List Nat) | made (n : Int) (qs : List (Int × Int)) | any
def zBs : Res -> Out
 | .text => .exc 0 | .web => .exc 1 | .many => .exc 2 | .tie _ => .exc 3 | .ok n qs => .made n qs
def inR (k : Int) (m : Int) : Bool := decide (0 <= k) && decide (k < m)
def ziv : List Th -> Option (List Int)
 | [] => some []
 | .num i :: r => (ziv r).map (i :: ·)
 | _ :: _ => none
def jT (m : Nat) (ks : List Int) : Bool := ks.all (inR · m) && decide ks.Nodup
def zfn (n u v : Int) (ps : List (Int × Int)) (ks : List Int) : Option Int := (ups n).find? fun x => !decide (x = u) && !decide (x = v) && zlb ps ks x && zlb ps (v5 ps.length ks) x
def zls (n : Int) (ps : List (Int × Int)) (u v : Int) (ks : List Int) : Out :=
 if jT ps.length ks = true then (if inR u n && inR v n && !decide (u = v) then (match zfn n u v ps ks with | some _ => .exc 6 | none => .made n (zib n u v ps ks)) else .exc 5) else .exc 4
def zar (f : List Nat) (ths : List Th) : Out :=
 if f = zbf then (match ths with | [_, .txt z] => zBs (zat z) | _ => .any)
 else if f = zfl \/ f = zcm then (match ths with | [_, .web _ ps, .num k] => if inR k ps.length = true then .any else .exc 4 | _ => .any)
 else if f = zed then (match ths with | [_, .web n1 p1, .web n2 p2] => if 9 < n1 + n2 \/ 8 < p1.length + p2.length then .exc 2 else .any | _ => .any)
 else if f = gY then (match ths with | [_, .web n1 p1, .num p, .web n2 p2, .num q] => if inR p n1 && inR q n2 then (if 9 < n1 + n2 - 1 \/ 8 < p1.length + p2.length then .exc 2 else .any) else .exc 5 | _ => .any)
 else (match ths with | _ :: .web n ps :: .num u :: .num v :: r => (match ziv r with | some ks => zls n ps u v ks | none => .any) | _ => .any)
def zaj (f : List Nat) (ths : List Th) : Out :=
 if f = zfp then (match ths with | [.web n ps] => .str (vP n ps) | _ => .any)
 else if f = xQ then (match ths with | [.web _ _, .num q] => if q < 0 then .exc 7 else .any | _ => .any)
 else if f = zcy then (match ths with | [.web _ _, .num q] => if q < 1 then .exc 7 else .any | _ => .any)
 else .any
def zBo (ks : qY) (ws : List (List Nat)) : Out := match xZ ks (xE ws) ws.tail with
 | none => .exc 9
 | some ths => if (xE ws).head? = some .new then zar (hd ws) ths else zaj (hd ws) ths
def wT (ks : qY) (l : List Nat) : Out := match vE l with
 | none => .exc 8
 | some ws => zBo ks ws
theorem zqb (r : Res) (z : List Nat) : zBs r ≠ .str z := by
 intro h;cases r <;> cases h
theorem zmm (f : List Nat) (ths : List Th) (z : List Nat) : zar f ths ≠ .str z := by
 unfold zar zls;intro h
 repeat' (split at h)
 all_goals first
  | (cases h; done)
  | exact absurd h (zqb _ _)
theorem zje (f : List Nat) (ths : List Th) (n : Int) (qs : List (Int × Int)) : zaj f ths ≠ .made n qs := by
 unfold zaj;intro h
 repeat' (split at h)
 all_goals (cases h)
theorem zzx {w : List Nat} {ks : List vJ} (h : qP w = some ks) : ks ≠ [] := by
 unfold qP at h;have : ∀ l : List (List Nat × List vJ), (∀ p ∈ l, p.2 ≠ []) -> l.lookup w = some ks -> ks ≠ [] := by
  intro l
  induction l with
  | nil => intro _ z; cases z
  | cons p r ih =>
   intro h1 h2;obtain ⟨a, b⟩ := p;rw [Q7] at h2;split at h2
   ·cases h2; exact h1 _ Qg
   ·exact ih (fun p hp => h1 p (Qk _ hp)) h2
 exact this formsT (by decide +kernel) h
theorem zzj {w : List Nat} (h : xL w = true) : PySem.intText? (mkS w) = some (zda w) /\ w.length <= 61 := by
 unfold xL at h;simp only [Qm, decide_eq_true_eq] at h;obtain ⟨⟨⟨h1, h2⟩, h3⟩, _⟩ := h;have dig : AllDigits (yT w) := fun c hc => by
  have := Jy.mp h3 c hc;unfold xN at this
  simpa using this
 unfold yT at *;unfold zda;split at h1
 ·rename_i e
  rw [if_pos e] at h2 dig ⊢;cases w with
  | nil => cases e
  | cons c cs =>
   cases e
   simp only [List.tail_cons, Q1] at *;refine ⟨intText_neg (by rw [yK]) dig (by intro z; rw [z] at h1; exact absurd h1 (by decide)) (by rw [yP, Q1]; lia), by lia⟩
 ·rename_i e
  rw [if_neg e] at h2 dig ⊢;have z := intText_digits (x := mkS w) (by rw [yK]; exact dig) (by rw [yK]; intro z; rw [z] at h1; exact absurd h1 (by decide)) (by rw [yP]; lia);rw [yK] at z;exact ⟨z, by lia⟩
theorem zwr {l : List Nat} (h : hd (zL 32 [] l) = zbf) : hd (xF 32 2 [] l) = zbf := by
 have g : ∀ (l cur : List Nat), hd (zL 32 cur l) = hd (xF 32 2 cur l) := by
  intro l
  induction l with
  | nil => intro cur; rfl
  | cons x xs ih =>
   intro cur;show hd (if x = 32 then cur :: zL 32 [] xs else zL 32 (cur ++ [x]) xs) = hd (if x = 32 then cur :: xF 32 1 [] xs else xF 32 2 (cur ++ [x]) xs);split
   ·rfl
   ·exact ih _
 rw [<- g];exact h
theorem zkx (l : List Nat) : hd (zZ l) = hd (zL 32 [] l) := by
 unfold zZ;split
 ·rename_i e
  rw [zwr e, e]
 ·rfl
theorem gR {c : Nat} : ∀ {l cur : List Nat} {k : Nat} {p : List Nat}, p ∈ xF c k cur l -> (∀ x ∈ p, x ∈ cur \/ x ∈ l) /\ p.length <= cur.length + l.length
 | [], cur, k, p, h => by
  have e : p = cur := by
   have : xF c k cur [] = [cur] := by cases k <;> rfl
   rw [this] at h
   simpa using h
  subst e;exact ⟨fun x hx => .inl hx, Nat.le_add_right _ _⟩
 | y :: r, cur, 0, p, h => by
  rw [qN] at h;have e : p = cur ++ y :: r := by simpa using h
  subst e;exact ⟨fun x hx => Q5.mp hx, by rw [Ql]; exact Qx _⟩
 | y :: r, cur, k + 1, p, h => by
  replace h : p ∈ (if y = c then cur :: xF c k [] r else xF c (k + 1) (cur ++ [y]) r) := h
  split at h
  ·rcases Qy.mp h with e | e
   ·subst e; exact ⟨fun x hx => .inl hx, Nat.le_add_right _ _⟩
   ·obtain ⟨z1, z2⟩ := gR e;refine ⟨fun x hx => ?_, by rw [Q1]; simp at z2; lia⟩;rcases z1 x hx with z | z
    ·cases z
    ·exact .inr (Qk _ z)
  ·obtain ⟨z1, z2⟩ := gR h;refine ⟨fun x hx => ?_, by rw [Ql, List.length_singleton] at z2; rw [Q1]; lia⟩;rcases z1 x hx with z | z
   ·rcases Q5.mp z with z | z
    ·exact .inl z
    ·have : x = y := by simpa using z
     subst this;exact .inr Qg
   ·exact .inr (Qk _ z)
theorem zfs {l : List Nat} (h : Asc l) : ∀ w ∈ zZ l, Asc w := fun w hw => by
 unfold zZ at hw;split at hw
 ·obtain ⟨z1, z2⟩ := gR hw;refine ⟨fun x hx => ?_, by have := h.2; simp at z2; lia⟩;rcases z1 x hx with z | z
  ·cases z
  ·exact h.1 x z
 ·exact h.part hw
theorem zfr {l : List Nat} (h : Asc l) : (zZ l).length <= 901 := by
 unfold zZ;split
 ·exact Qc (jO 32 2 l []) (by decide)
 ·have := qE 32 l [];have := h.2;lia
theorem zjv (l : List Nat) : zZ l ≠ [] := by
 unfold zZ;split
 ·intro e
  rename_i z
  have := zwr z;rw [e] at this;cases this
 ·exact kQ
end My
namespace My
open PySem L2
theorem zlh {k1 k2 : Kd} {K : W.Frag} {a b : Addr} {xs ys : List V} {g : TG} {tt : TT} {te : TE} {fin : List V -> Hp -> Prop} {σ : St} {H : Hp} (S : St -> Prop) (Pv : Nat -> List V -> Hp -> Prop) (hσ : S σ) (h0 : Pv 0 [] H) (hz : xs.length < sizeLine)
  (hl : ∀ i zs H, i <= xs.length -> Pv i zs H -> SqK k1 K H a xs /\ SqK k2 K H b ys) (hle : xs.length <= ys.length)
  (hs : ∀ (i : Nat) (x y : V) (p : Addr) (zs : List V) (σ : St) (H : Hp) (N : List V -> St -> Hp -> Prop), xs[i]? = some x -> ys[i]? = some y -> S σ -> Pv i zs H -> H p = none -> (∀ zs' σ' H', S σ' -> Pv (i + 1) zs' H' -> zs'.length <= zs.length + 1 -> N zs' σ' H') ->
   g (.ref p) σ (upd H p (.tup [x, y])) fun σ2 H2 => tt σ2 H2 fun b H3 => if b = true then te σ2 H3 fun y H4 => N (zs ++ [y]) σ2 H4 else N zs σ2 H3)
  (hd : ∀ zs H, Pv xs.length zs H -> fin zs H) : ∃ W, zef (ItZ k1 k2 K a b) g tt te fin W /\ ∃ m, W 0 m [] σ H := by
 refine ⟨fun i m zs σ H => m = xs.length - i /\ i <= xs.length /\ zs.length <= i /\ S σ /\ Pv i zs H, ?_, xs.length, by simp, Jw _, Qx _, hσ, h0⟩;rintro i m zs σ H ⟨rfl, hi, hy, hS, p⟩;obtain ⟨q1, q2⟩ := hl i zs H hi p;by_cases hlt : i < xs.length
 ·have hlt2 : i < ys.length := by lia
  refine .inr ⟨⟨xs, ys, xs[i], ys[i], q1, q2, by simp [hlt], by simp [hlt2]⟩, by lia, fun x H' y => ?_⟩;obtain ⟨r, x, y, hn, rfl, hx, hy2, rfl⟩ := y;exact hs i x y r zs σ H (fun zs' σ' H'' => ∃ m', m' < xs.length - i /\ m' = xs.length - (i + 1) /\ i + 1 <= xs.length /\ zs'.length <= i + 1 /\ S σ' /\ Pv (i + 1) zs' H'') (hx xs q1) (hy2 ys q2) hS p hn (fun zs' σ' H'' a b c => ⟨_, by lia, rfl, hlt, by lia, a, b⟩)
 ·have e : i = xs.length := by lia
  subst e;exact .inl ⟨⟨xs, q1, Qx _⟩, by lia, hd zs H p⟩
theorem zlx (l : List Nat) (c : Nat) : Txt.startswith (mkS l) (mkS [c]) = (l.head? == some c) := by
 have e : Txt.startswith (mkS l) (mkS [c]) = (decide (0 + (mkS [c]).length <= (mkS l).length) && Builtin.Str.subAt (mkS l) ⟨#[c]⟩ 0) := rfl;rw [e, zax, yK, yP, yP];cases l with
 | nil => rfl
 | cons x xs => simp
theorem zps (c : Nat) (l : List Nat) : Txt.slice (mkS (c :: l)) (some 1) none = mkS l := by
 have e0 : Builtin.Str.strSliceIndices (some 1) none 1 (mkS (c :: l)).length = Builtin.Str.strSliceIndices (some ((1 : Nat) : Int)) (some (((mkS (c :: l)).length : Nat) : Int)) 1 (mkS (c :: l)).length := by
  unfold Builtin.Str.strSliceIndices;simp only [show ((1 : Int) > 0) = True from by simp, if_true];rw [if_neg (show ¬ (((mkS (c :: l)).length : Nat) : Int) < 0 by lia), show max (0 : Int) (min (((mkS (c :: l)).length : Nat) : Int) (((mkS (c :: l)).length : Nat) : Int)) = (((mkS (c :: l)).length : Nat) : Int) by lia];rfl
 have hl : (mkS (c :: l)).length = l.length + 1 := by rw [yP, Q1]
 unfold Txt.slice;rw [e0, StrLaws.strSliceIndices_plain (by rw [hl]; lia) (Qx _)];rw [if_neg (by rw [Qj, List.length_range, hl]; simp)];have := StrLaws.sliced_plain (mkS (c :: l)) (a := 1) (b := (mkS (c :: l)).length) (by rw [hl]; lia) (Qx _);rw [StrLaws.strSliceIndices_plain (by rw [hl]; lia) (Qx _)] at this;rw [this, yK, hl];show (⟨((l.take (l.length + 1 - 1))).toArray⟩ : Str) = mkS l;rw [show l.length + 1 - 1 = l.length by lia, Jz];rfl
theorem zzo (c : Nat) : decide (c ∈ (("abcdefghijklmnopqrstuvwxyz" : Str).cps.toList)) = ziz c := by
 have e : ("abcdefghijklmnopqrstuvwxyz" : Str).cps.toList = [97, 98, 99, 100, 101, 102, 103, 104, 105, 106, 107, 108, 109, 110, 111, 112, 113, 114, 115, 116, 117, 118, 119, 120, 121, 122] := by decide +kernel
 rw [e];unfold ziz;rw [<- Bool.decide_and];refine decide_eq_decide.mpr ?_;simp only [Qy, Ju, or_false];omega
theorem Asc.line {w : List Nat} (h : Asc w) : (mkS w).length <= sizeLine := by rw [yP]; exact Qc h.2 (by decide)
theorem Asc.size {w : List Nat} (h : Asc w) : (mkS w).cps.size < sizeLine := by rw [kI]; exact Jv h.2 (by decide)
theorem Asc.figs {w : List Nat} (h : Asc w) : Asc (yT w) := by
 unfold yT;split
 ·exact ⟨fun c hc => h.1 c (List.mem_of_mem_tail hc), Qc (by rw [List.length_tail]; lia) h.2⟩
 ·exact h
def zoi : Sp := fun vs H Q _ => ∃ w : List Nat, vs = [.str (mkS w)] /\ Asc w /\ ∀ H', Same H H' -> Q (.bl (xL w)) H'
def zkg : Sp := fun vs H Q _ => ∃ w : List Nat, vs = [.str (mkS w)] /\ Asc w /\ ∀ H', Same H H' -> Q (.bl (zgg w)) H'
section
variable {P : Program} {w : World} {K : W.Frag} {mg : Str -> Option Value} {base : Heap}
theorem scIsNum : zR ["word", "figures"] ["word"] (zH zio) := ⟨rfl, rfl, rfl, by decide +kernel, rfl, by decide +kernel, by decide +kernel⟩
theorem zot : (["sign"] : List Str).Nodup := by decide +kernel
theorem zAq {tf tm : Tok} (T : Txt K mg) (fig : mg "FIGURES" = some (.str "0123456789" tf)) (mf : mg "MOST_FIGURES" = some (.int 60 tm)) (S : Src K mg "is_number" zio ["word"]) : Def P w K mg base 1 "is_number" ["word"] zoi := by
 refine S.def scIsNum (fun vs H Q E h => ?_) (fun f cdv A outer s H vs Q E hr h => ?_)
 ·obtain ⟨_, rfl, _⟩ := h; rfl
 ·obtain ⟨l, rfl, as, q⟩ := h;refine ⟨_, zD (zU (i := 1) scIsNum.nd rfl (Or.inl rfl) (qK (wG (kS PySem.F.plainAttrs_str PySem.F.slot_str_startswith PySem.F.type_str_startswith zqi (pv 0) (zA zE zC))) (wP zCz (pv 0) (wJ zF) qF) (pv 0)))
   (zD (yL (PW.pt (zit (vF (ztr zds zds zF (zM qA (by rfl) T.len PySem.boot_len (zA (pv 1) zC)) (yJ (v := .int 60) rfl mf ⟨_, rfl⟩)))
    (zcr (vF (wG (zM (kO rfl) (by rfl) T.all jD (zA (wL (N' := ["sign"]) (fr := [none]) (yH (by rfl)) rfl (znj (pv 1))
     (fun _ _ _ _ => yE (i := 0) zot rfl (Or.inl rfl) (Or.inr rfl)) (fun _ _ _ _ => yX)
     (fun _ _ _ _ => vS zbp (pv 0) (yJ (v := .str "0123456789") rfl fig ⟨_, rfl⟩) rfl)) zC))))))) (zG (zV gT)) zQ)
   (zG (zV (zBw (vS j6 (zT zwp (pv 1) zF (fun _ _ => rfl)) zE (yA _)) (zfe (vS wA (pv 0) zE (yA _))))))), ?_⟩
  refine wS fun M hM => ?_;have go : M [some (.str (mkS l)), some (.str (mkS (yT l)))] H := by
   refine hM _ _ ?_;clear hM M;have af := as.figs;refine ⟨_, rfl, _, rfl, af.line, _, _, rfl, rfl, _, rfl, ?_⟩;rw [yP];by_cases h1 : 1 <= (yT l).length
   ·rw [Qb (show (1 : Int) <= ((yT l).length : Int) by lia)];refine xK ⟨_, _, rfl, rfl, _, rfl, ?_⟩;by_cases h60 : (yT l).length <= 60
    ·rw [Qb (show ((yT l).length : Int) <= 60 by lia)];refine yR ?_;refine ⟨_, rfl, _, rfl, af.all, zes (z := mkS (yT l)) (fun σ => ∃ v, σ = [v]) (fun j ys H' => H' = H /\ ys = ((yT l).take j).map fun c => V.bl (xN c)) ⟨_, rfl⟩ ⟨rfl, rfl⟩ af.size ?_ ?_⟩
     ·rintro j c ys σ H' N hc ⟨u, rfl⟩ ⟨rfl, rfl⟩ hN;dsimp only [xH, List.set];refine zaw ?_;have hc' : (yT l)[j]? = some c := by
       have : (mkS (yT l)).cps.toList[j]? = some c := by simpa using hc
       rwa [yK] at this
      refine ⟨_, rfl, _, _, rfl, rfl, ?_⟩;rw [StrLaws.found_one, zpd];refine hN _ _ _ ⟨_, rfl⟩ ⟨rfl, ?_⟩ (by simp);rw [zW hc', Qp];rfl
     ·rintro ys H' ⟨rfl, rfl⟩ r hr';rw [kI, Jz];refine ⟨r, (yT l).map xN, rfl, SqL.of (by rw [zB, Jt]; rfl), ?_⟩;have s2 := Same.new (o := HO.lst ((yT l).map fun c => V.bl (xN c))) hr';generalize upd H' r (HO.lst ((yT l).map fun c => V.bl (xN c))) = H2 at s2 ⊢;refine ⟨_, rfl, ?_⟩;cases hf : ((yT l).map xN).all id with
      | false =>
       refine xK ?_;have e : xL l = false := by
        unfold xL;rw [show (yT l).all xN = false by rw [<- hf, List.all_map]; rfl];simp
       rw [<- e];exact q _ s2
      | true =>
       refine yR ?_;have hf' : (yT l).all xN = true := by rw [<- hf, List.all_map]; rfl
       obtain ⟨c, r2, ec⟩ : ∃ c r2, yT l = c :: r2 := by
        cases e : yT l with
        | nil => rw [e] at h1; exact absurd h1 (by decide)
        | cons c r2 => exact ⟨c, r2, rfl⟩
       refine ⟨_, rfl, _, _, c, rfl, rfl, af.line, by rw [yK, ec]; exact zJ (j := 0) rfl, rfl, ?_⟩;have e0 : xL l = (!decide (c = 48) || decide (l = [48])) := by
        unfold xL;rw [hf', Qb h1, Qb h60, ec];simp
       have e1 : decide (V.str ⟨#[c]⟩ = V.str "0") = decide (c = 48) := by
        have := zhx [c] "0";rw [show cod "0" = [48] by decide +kernel] at this;refine Eq.trans this (decide_eq_decide.mpr ?_);simp
       rw [e1];refine ⟨_, rfl, ?_⟩;cases hc : (!decide (c = 48)) with
       | true =>
        refine xK ?_;rw [hc, Bool.true_or] at e0;rw [<- e0];exact q _ s2
       | false =>
        refine yR ⟨_, rfl, rfl, ?_⟩;rw [hc, Bool.false_or] at e0;rw [zhx, show cod "0" = [48] by decide +kernel, <- e0];exact q _ s2
    ·rw [Qv (show ¬ ((yT l).length : Int) <= 60 by lia)];refine xK (xK ?_);have e : xL l = false := by
      unfold xL;rw [Qv h60];simp
     rw [<- e];exact q _ (Same.refl _)
   ·rw [Qv (show ¬ (1 : Int) <= ((yT l).length : Int) by lia)];refine yR ⟨_, rfl, xK (xK ?_)⟩;have e : xL l = false := by
     unfold xL;rw [Qv h1];simp
    rw [<- e];exact q _ (Same.refl _)
  clear hM;refine ⟨_, rfl, rfl, _, _, rfl, rfl, _, rfl, ?_⟩;rw [zas, zlx];unfold yT at go;cases l with
  | nil => exact yR ⟨_, rfl, go⟩
  | cons c r =>
   by_cases hc : c = 45
   ·subst hc;refine xK ⟨_, rfl, _, rfl, _, rfl, as.line, ?_⟩;rw [zps];exact go
   ·rw [show ((c :: r).head? == some 45) = false by simp [hc]];rw [if_neg (by simp [hc])] at go;exact yR ⟨_, rfl, go⟩
theorem zte : zR ["word"] ["word"] (zH zdo) := ⟨rfl, rfl, rfl, by decide +kernel, rfl, by decide +kernel, by decide +kernel⟩
theorem zvf {tf tm : Tok} (T : Txt K mg) (fig : mg "LETTERS" = some (.str "abcdefghijklmnopqrstuvwxyz" tf)) (mf : mg "MOST_LETTERS" = some (.int 8 tm)) (S : Src K mg "is_name" zdo ["word"]) : Def P w K mg base 1 "is_name" ["word"] zkg := by
 refine S.def zte (fun vs H Q E h => ?_) (fun f cdv A outer s H vs Q E hr h => ?_)
 ·obtain ⟨_, rfl, _⟩ := h; rfl
 ·obtain ⟨l, rfl, as, q⟩ := h;refine ⟨_, zG (zV (znl (zko zds zds zF (zM qA (by rfl) T.len PySem.boot_len (zA (pv 0) zC)) (yJ (v := .int 8) rfl mf ⟨_, rfl⟩))
    (zfe (zM (kO rfl) (by rfl) T.all jD (zA (wL (N' := ["sign"]) (fr := [none]) (yH (by rfl)) rfl (znj (pv 0))
     (fun _ _ _ _ => yE (i := 0) zot rfl (Or.inl rfl) (Or.inr rfl)) (fun _ _ _ _ => yX)
     (fun _ _ _ _ => vS zbp (pv 0) (yJ (v := .str "abcdefghijklmnopqrstuvwxyz") rfl fig ⟨_, rfl⟩) rfl)) zC))))), ?_⟩
  refine ⟨_, rfl, _, rfl, as.line, _, _, rfl, rfl, _, rfl, ?_⟩;rw [yP];by_cases h1 : 1 <= l.length
  ·rw [Qb (show (1 : Int) <= (l.length : Int) by lia)];refine xK ⟨_, _, rfl, rfl, _, rfl, ?_⟩;by_cases h8 : l.length <= 8
   ·rw [Qb (show (l.length : Int) <= 8 by lia)];refine xK ?_;refine ⟨_, rfl, _, rfl, as.all, zes (z := mkS l) (fun σ => ∃ v, σ = [v]) (fun j ys H' => H' = H /\ ys = (l.take j).map fun c => V.bl (ziz c)) ⟨_, rfl⟩ ⟨rfl, rfl⟩ as.size ?_ ?_⟩
    ·rintro j c ys σ H' N hc ⟨u, rfl⟩ ⟨rfl, rfl⟩ hN;dsimp only [xH, List.set];refine zaw ?_;have hc' : l[j]? = some c := by
      have : (mkS l).cps.toList[j]? = some c := by simpa using hc
      rwa [yK] at this
     refine ⟨_, rfl, _, _, rfl, rfl, ?_⟩;rw [StrLaws.found_one, zzo];refine hN _ _ _ ⟨_, rfl⟩ ⟨rfl, ?_⟩ (by simp);rw [zW hc', Qp];rfl
    ·rintro ys H' ⟨rfl, rfl⟩ r hr';rw [kI, Jz];refine ⟨r, l.map ziz, rfl, SqL.of (by rw [zB, Jt]; rfl), ?_⟩;have e : (l.map ziz).all id = zgg l := by
      unfold zgg;rw [Qb h1, Qb h8, List.all_map];rfl
     rw [e];exact q _ (Same.new hr')
   ·rw [Qv (show ¬ (l.length : Int) <= 8 by lia)];refine yR ?_;have e : zgg l = false := by
     unfold zgg;rw [Qv h8];simp
    rw [<- e];exact q _ (Same.refl _)
  ·rw [Qv (show ¬ (1 : Int) <= (l.length : Int) by lia)];refine yR ⟨_, rfl, yR ?_⟩;have e : zgg l = false := by
    unfold zgg;rw [Qv h1];simp
   rw [<- e];exact q _ (Same.refl _)
end
open PySem.W (nsIn)
def v6 (k : vJ) : V := .str (zsc k)
def wI (w : List Nat) : V := .str (mkS w)
structure DK (K : W.Frag) (w : World) (mg : Str -> Option Value) (fa ca : Addr) : Prop where
 mf : mg "FORMS" = some (.ref fa)
 mc : mg "COUNTED" = some (.ref ca)
 df : FD K w fa
 dc : FD K w ca
 f0 : ∀ x, qP (cod x) = none -> nsIn K fa x = some none
 f1 : ∀ x ks, qP (cod x) = some ks -> ∃ a, nsIn K fa x = some (some (.ref a)) /\ ∀ H, SqT K H a (ks.map v6)
 c1 : ∀ x, ∃ r, nsIn K ca x = some r /\ r.isSome = decide (cod x ∈ zCj)
def zwf : Sp := fun vs H Q _ => ∃ (k : vJ) (w : List Nat), vs = [v6 k, wI w] /\ Asc w /\ ∀ H', Same H H' -> Q (.bl (xX k w)) H'
def zni (K : W.Frag) : Sp := fun vs H Q _ => ∃ (l : Addr) (ws : List (List Nat)), vs = [.ref l] /\ H l = some (.lst (ws.map wI)) /\ ws ≠ [] /\ ws.length <= 901 /\ (qP (hd ws)).isSome = true /\ ∀ t H', Same H H' -> SqT K H' t ((xE ws).map v6) -> Q (.ref t) H'
def znz (K : W.Frag) (CR : Addr) : Sp := fun vs H Q E => (∃ x, vs = [x] /\ Plain K H x /\ (∀ z, x ≠ .str z) /\ ∀ H', Same H H' -> E (.ref CR) none H') \/
 ∃ l, vs = [wI l] /\ Asc l /\ (vE l = none -> ∀ H', Same H H' -> E (.ref CR) none H') /\ ∀ ws, vE l = some ws -> ∀ a H', Same H H' -> H' a = some (.lst (ws.map wI)) -> Q (.ref a) H'
theorem kK (k : vJ) : decide (v6 k = V.str "number") = decide (k = .number) := kL k .number
theorem zul (k : vJ) : decide (v6 k = V.str "counted") = decide (k = .counted) := kL k .counted
theorem zuk (k : vJ) : decide (v6 k = V.str "text") = decide (k = .text) := kL k .text
theorem zks (k : vJ) : decide (v6 k = V.str "new") = decide (k = .new) := kL k .new
theorem wQ (k : vJ) : decide (v6 k = V.str "kept") = decide (k = .kept) := kL k .kept
theorem zAt : cod "" = [] := by decide +kernel
theorem wN {x : Str} {c : List Nat} (e : cod x = c) (w : List Nat) : decide (wI w = V.str x) = decide (w = c) := by subst e; exact zhx w x
theorem zAc (w : List Nat) : decide (wI w = V.str "") = decide (w = []) := (wN zAt w).trans (decide_eq_decide.mpr Iff.rfl)
theorem zup (w : List Nat) : ((qP w).getD []).length <= 5 := by
 unfold qP;have : ∀ l : List (List Nat × List vJ), (∀ p ∈ l, p.2.length <= 5) -> ((l.lookup w).getD []).length <= 5 := by
  intro l
  induction l with
  | nil => intro _; exact Jw _
  | cons p r ih =>
   intro h;obtain ⟨a, b⟩ := p;rw [Q7];split
   ·exact h (a, b) Qg
   ·exact ih fun p hp => h p (Qk _ hp)
 exact this formsT (by decide +kernel)
theorem zhs (w : List Nat) (ws : List (List Nat)) : hd (w :: ws) = w := rfl
section
variable {P : Program} {w : World} {K : W.Frag} {mg : Str -> Option Value} {base : Heap} {fa ca : Addr}
theorem zDe : zR ["kind", "word"] ["kind", "word"] (zH zsb) := ⟨rfl, rfl, rfl, by decide +kernel, rfl, by decide +kernel, by decide +kernel⟩
theorem zEu (D : DK K w mg fa ca) (S : Src K mg "fits" zsb ["kind", "word"]) (DN : Def P w K mg base 1 "is_number" ["word"] zoi) : Def P w K mg base 2 "fits" ["kind", "word"] zwf := by
 refine S.def zDe (fun vs H Q E h => ?_) (fun f cdv A outer s H vs Q E hr h => ?_)
 ·obtain ⟨_, _, rfl, _⟩ := h; rfl
 ·obtain ⟨k, l, rfl, as, q⟩ := h;refine ⟨_, zD (yL (zP wA (pv 0) zE (yA _)) (zG (zV (yC DN hr rfl (zA (pv 1) zC)))) zQ)
   (zD (yL (zP wA (pv 0) zE (yA _)) (zG (zV (vS (r := zis K w false) ztx (pv 1) (yJ (v := .ref ca) rfl D.mc rfl) rfl))) zQ)
   (zG (zV (zBw (vS wA (pv 0) zE (yA _)) (zfe (vS j6 (pv 1) zE (yA _))))))), ?_⟩
  refine ⟨_, rfl, rfl, _, rfl, ?_⟩;rw [kK];obtain ⟨r, hr1, hr2⟩ := D.c1 (mkS l);rw [zag] at hr2;have low : k ≠ .number -> k ≠ .counted -> zHs (zHt (tOp rEq (zex 0) (tC (.str "text"))) (tOp rNe (zex 1) (tC (.str "")))) { nx := fun _ H' => Q .non H', rt := Q } [some (v6 k), some (wI l)] H := fun n1 n2 => by
   refine ⟨_, rfl, rfl, ?_⟩;rw [zuk];by_cases h3 : k = .text
   ·rw [Qb h3];subst h3;exact ⟨_, rfl, xK (q _ (Same.refl _))⟩
   ·rw [Qv h3];refine ⟨_, rfl, yR ⟨_, rfl, rfl, ?_⟩⟩;rw [zAc];have : xX k l = !decide (l = []) := by cases k <;> first | rfl | exact absurd rfl n1 | exact absurd rfl n2 | exact absurd rfl h3
    rw [<- this];exact q _ (Same.refl _)
  by_cases h1 : k = .number
  ·rw [Qb h1];subst h1;exact xK ⟨_, rfl, l, rfl, as, q⟩
  ·rw [Qv h1];refine yR ⟨_, rfl, rfl, _, rfl, ?_⟩;rw [zul];by_cases h2 : k = .counted
   ·rw [Qb h2];subst h2;refine xK ⟨_, rfl, mkS l, ca, r, rfl, rfl, D.dc, hr1, ?_⟩;rw [if_neg Qs, hr2];exact q _ (Same.refl _)
   ·rw [Qv h2];exact yR (low h1 h2)
theorem scForm : zR ["words", "form"] ["words"] (zH zsa) := ⟨rfl, rfl, rfl, by decide +kernel, rfl, by decide +kernel, by decide +kernel⟩
theorem zEt (T : Txt K mg) (D : DK K w mg fa ca) (S : Src K mg "form_of" zsa ["words"]) : Def P w K mg base 1 "form_of" ["words"] (zni K) := by
 refine S.def scForm (fun vs H Q E h => ?_) (fun f cdv A outer s H vs Q E hr h => ?_)
 ·obtain ⟨_, _, rfl, _⟩ := h; rfl
 ·obtain ⟨l, ws, rfl, hl, ne, wl, fs, q⟩ := h;refine ⟨_, zD (zU (i := 1) scForm.nd rfl (Or.inl rfl) (zT (r := zwi K w) zEc (yJ (v := .ref fa) rfl D.mf rfl) (zT (zO K) (pv 0) zF (fun _ _ => rfl)) (fun _ _ => rfl)))
   (zD (yL (zP wA (zT (zO K) (pv 0) zF (fun _ _ => rfl)) zE (yA _)) (zG (zU (i := 1) scForm.nd rfl (Or.inl rfl) (zN zzg (pv 1) (zN (r := zBu K) zzc (wH (zA zE zC)) (zN j5 (zN j5 (zM (xT K) (by rfl) T.len PySem.boot_len (zA (pv 0) zC)) zF) (zM (xT K) (by rfl) T.len PySem.boot_len (zA (pv 1) zC))))))) zQ)
   (zG (zV (pv 1)))), ?_⟩
  obtain ⟨w0, wr, rfl⟩ : ∃ w0 wr, ws = w0 :: wr := by
   cases ws with
   | nil => exact absurd rfl ne
   | cons a b => exact ⟨a, b, rfl⟩
  rw [zhs] at fs;obtain ⟨ks, ek⟩ := Option.isSome_iff_exists.mp fs;obtain ⟨a, e1, e2⟩ := D.f1 (mkS w0) ks (by rw [zag]; exact ek);have i0 : atI ((w0 :: wr).map wI) 0 = some (wI w0) := zJ (j := 0) rfl;have kl := zup w0;rw [ek] at kl;refine ⟨_, rfl, l, _, _, _, rfl, rfl, SqL.of hl, i0, fa, mkS w0, .ref a, _, rfl, rfl, D.df, e1, rfl, ?_⟩;refine ⟨_, rfl, l, _, _, _, rfl, rfl, SqL.of hl, i0, rfl, _, rfl, ?_⟩;rw [wN zvk];by_cases ht : w0 = qR
  ·rw [Qb ht];refine xK ⟨_, rfl, by show 1 <= sizeLine; decide, fun p1 hp1 => ?_⟩;have s1 := Same.new (o := HO.tup [V.str "number"]) hp1;have h1 : (upd H p1 (.tup [V.str "number"])) p1 = some (.tup [V.str "number"]) := zB;generalize upd H p1 (.tup [V.str "number"]) = H1 at s1 h1 ⊢;refine ⟨_, rfl, l, _, rfl, .inl (SqL.of (s1 _ _ hl)), _, _, rfl, rfl, _, rfl, a, _, rfl, .inr (e2 H1), _, _, rfl, rfl, ?_⟩;rw [Qj, Qj];refine ⟨p1, _, V.str "number", rfl, rfl, SqT.of h1, by simp at kl ⊢; lia, by simp at wl ⊢; lia, fun p2 H2 s2 hp2 => ?_⟩;refine ⟨a, p2, _, _, rfl, rfl, e2 H2, hp2, ?_, fun p3 H3 s3 hp3 => ?_⟩
   ·rw [Qj, List.length_replicate];exact Qc (show _ <= 1000 by simp at kl wl ⊢; lia) (by decide)
   ·refine ⟨_, rfl, q p3 H3 ((s1.trans s2).trans s3) ?_⟩;have e4 : ks.length = 4 := by
     rw [ht] at ek;have : qP qR = some [.new, .kept, .number, .number] := by decide +kernel
     rw [this] at ek;cases ek
     rfl
    have e : (xE (w0 :: wr)).map v6 = ks.map v6 ++ List.replicate ((((w0 :: wr).length : Int) - 1 - (ks.length : Int)).toNat) (V.str "number") := by
     unfold xE;rw [zhs, ek, if_pos ht, Option.getD_some, Qp, List.map_replicate, e4];congr 2;simp;lia
    rw [e];exact hp3
  ·rw [Qv ht];refine yR ⟨_, rfl, q a H (Same.refl H) ?_⟩;have e : xE (w0 :: wr) = ks := by
    unfold xE;rw [zhs, ek, if_neg ht, Option.getD_some, Jp]
   rw [e];exact e2 H
theorem scWords : zR ["row", "words", "form"] ["row"] (zH zif) := ⟨rfl, rfl, rfl, by decide +kernel, rfl, by decide +kernel, by decide +kernel⟩
theorem zCa : (["kind", "word"] : List Str).Nodup := by decide +kernel
theorem zlg (ws : List (List Nat)) : zhy (ws.map wI) (some 1) none = ws.tail.map wI := by
 cases ws with
 | nil => decide +kernel
 | cons w wr => exact zIf _ _
theorem zpb : ∀ (ks : List vJ) (ws : List (List Nat)), ks.length = ws.length -> vM ks ws = ((ks.zip ws).map fun p => xX p.1 p.2).all id
 | [], [], _ => rfl
 | k :: ks, w :: ws, h => by
  show (xX k w && vM ks ws) = _;rw [zpb ks ws (by simpa using h)];rfl
 | [], _ :: _, h => by cases h
 | _ :: _, [], h => by cases h
theorem zAf {CR : Addr} {bR : List Value} (T : Txt K mg) (D : DK K w mg fa ca) (hR : mg "NoRow" = some (.ref CR)) (xR : vH K CR bR = true) (S : Src K mg "words_of" zif ["row"]) (DF : Def P w K mg base 1 "form_of" ["words"] (zni K)) (DT : Def P w K mg base 2 "fits" ["kind", "word"] zwf) : y9 P w K mg base 3 "words_of" ["row"] (znz K CR) := by
 refine Src.defQ S scWords (fun vs H Q E h => ?_) (fun f cdv A outer s H vs Q E hr h => ?_)
 ·rcases h with ⟨_, rfl, _⟩ | ⟨_, rfl, _⟩ <;> rfl
 ·have hr1 : Room 1 _ := hr.mono (by decide);refine ⟨_, zD (yL (vF (wG (zM (jC K) (by rfl) T.isi yY (zA (pv 0) (zA (gH (v := .ty "str") rfl T.str w4 rfl) zC))))) (zG (yO rfl hR xR (zA zE zC))) zQ)
   (zD (zU (i := 1) scWords.nd rfl (Or.inl rfl) (kS PySem.F.plainAttrs_str PySem.F.slot_str_split PySem.F.type_str_split zaq (pv 0) (zA zE zC)))
   (zD (yL (zP (r := zis K w true) zjj (zT (zO K) (pv 1) zF (fun _ _ => rfl)) (yJ (v := .ref fa) rfl D.mf rfl) rfl) (zG (yO rfl hR xR (zA zE zC))) zQ)
   (zD (yL (zP wA (zT (zO K) (pv 1) zF (fun _ _ => rfl)) zE (yA _)) (zG (zU (i := 1) scWords.nd rfl (Or.inl rfl) (kS PySem.F.plainAttrs_str PySem.F.slot_str_split PySem.F.type_str_split zqj (pv 0) (zA zE (zA zF zC))))) zQ)
   (zD (zU (i := 2) scWords.nd rfl (Or.inl rfl) (yC DF hr1 rfl (zA (pv 1) zC)))
   (zD (yL (zP j6 (zN j5 (zM (xT K) (by rfl) T.len PySem.boot_len (zA (pv 1) zC)) zF) (zM (xT K) (by rfl) T.len PySem.boot_len (zA (pv 2) zC)) (yA _)) (zG (yO rfl hR xR (zA zE zC))) zQ)
   (zD (yL (vF (wG (zM (kO rfl) (by rfl) T.all jD (zA (wL (N' := ["kind", "word"]) (fr := [none, none]) (yH (by rfl)) rfl (zhl K .t .l rfl T.zip (zA (pv 2) (zA (wP (wX K) (pv 1) (wJ zF) qF) zC)))
    (g := zws K 2 (zcl (xH 0) (zcl (xH 1) zzu))) (fun _ _ _ _ => jX K 2 rfl (xV (yE (i := 0) zCa rfl (Or.inl rfl) (Or.inr rfl)) (xV (yE (i := 1) zCa rfl (Or.inl rfl) (Or.inr rfl)) jW))) (fun _ _ _ _ => yX)
    (fun _ _ _ _ => yC DT hr rfl (zA (pv 0) (zA (pv 1) zC)))) zC)))) (zG (yO rfl hR xR (zA zE zC))) zQ)
   (zG (zV (pv 1))))))))), ?_⟩
  rcases h with ⟨x, rfl, ⟨ty, px, pn⟩, nx, q⟩ | ⟨l, rfl, as, qe, q⟩
  ·exact ⟨_, rfl, _, _, _, _, _, rfl, rfl, px, zov px pn nx, _, rfl, xK ⟨by show 1 <= 100; decide, q H (Same.refl H)⟩⟩
  ·have L : (mkS l).length = l.length := yP _;refine ⟨_, rfl, _, _, _, _, _, rfl, rfl, .str _, zCd K, _, rfl, yR ?_⟩;refine ⟨_, rfl, rfl, _, 32, rfl, congrArg (fun z => [V.str z]) jB, by decide, by rw [L]; have := as.2; lia, fun a ha => ?_⟩;rw [yK];have s1 := Same.new (o := HO.lst ((zL 32 [] l).map wI)) ha;have hl : (upd H a (HO.lst ((zL 32 [] l).map wI))) a = some (.lst ((zL 32 [] l).map wI)) := zB
   change zxu _ _ _ _ (upd H a (HO.lst ((zL 32 [] l).map wI)))
   generalize upd H a (HO.lst ((zL 32 [] l).map wI)) = H1 at s1 hl ⊢;obtain ⟨w0, wr, ew⟩ : ∃ w0 wr, zL 32 [] l = w0 :: wr := by
    cases e : zL 32 [] l with
    | nil => exact absurd e kQ
    | cons a b => exact ⟨a, b, rfl⟩
   have hw : hd (zL 32 [] l) = w0 := by rw [ew]; rfl
   have i0 : atI ((zL 32 [] l).map wI) 0 = some (wI w0) := by rw [ew]; exact zJ (j := 0) rfl
   cases ef : qP w0 with
   | none =>
    have e1 := D.f0 (mkS w0) (by rw [zag]; exact ef);refine ⟨_, rfl, a, _, _, _, rfl, rfl, SqL.of hl, i0, mkS w0, fa, none, rfl, rfl, D.df, e1, _, rfl, xK ⟨by show 1 <= 100; decide, qe ?_ _ s1⟩⟩;unfold vE;rw [hw, ef]
   | some ks =>
    obtain ⟨af, e1, _⟩ := D.f1 (mkS w0) ks (by rw [zag]; exact ef);refine ⟨_, rfl, a, _, _, _, rfl, rfl, SqL.of hl, i0, mkS w0, fa, some (.ref af), rfl, rfl, D.df, e1, _, rfl, yR ?_⟩;refine wS fun M0 hM0 => hM0 _ _ ?_;clear hM0 M0;refine wS fun M hM => ?_;have go : ∀ b H2, Same H H2 -> H2 b = some (.lst ((zZ l).map wI)) -> M [some (wI l), some (.ref b), none] H2 := fun b H2 s2 hb => by
     refine hM _ _ ?_;clear hM M;have wsn : vE l = if (zZ l).length = (xE (zZ l)).length + 1 then (if vM (xE (zZ l)) (zZ l).tail = true then some (zZ l) else none) else none := by
      unfold vE;rw [hw, ef]
     have wn := zjv l;have wpos : 1 <= (zZ l).length := by
      cases e : zZ l with
      | nil => exact absurd e wn
      | cons _ _ => rw [Q1]; lia
     have wl := zfr as;have wa := zfs as;refine ⟨_, rfl, b, zZ l, rfl, hb, wn, wl, by rw [zkx, hw, ef]; rfl, fun t H3 s3 ht => ?_⟩;have s13 := s2.trans s3;refine ⟨_, rfl, b, _, rfl, .inl (SqL.of (s3 _ _ hb)), _, _, rfl, rfl, _, rfl, t, _, rfl, .inr ht, rfl, _, rfl, ?_⟩;rw [Qj, Qj];by_cases hn : (zZ l).length = (xE (zZ l)).length + 1
     ·refine zmo (by rw [hn]; congr 1; lia) ?_;rw [if_pos hn] at wsn;refine ⟨_, rfl, _, rfl, _, rfl, b, _, rfl, SqL.of (s3 _ _ hb), fun c hc => ?_⟩;rw [zlg];have s4 := Same.new (o := HO.lst ((zZ l).tail.map wI)) hc;have hl4 : (upd H3 c (HO.lst ((zZ l).tail.map wI))) c = some (.lst ((zZ l).tail.map wI)) := zB;generalize upd H3 c (HO.lst ((zZ l).tail.map wI)) = H4 at s4 hl4 ⊢;have ht4 := s4.tup ht;have tl : (xE (zZ l)).length = (zZ l).tail.length := by rw [List.length_tail]; lia
      refine ⟨t, c, _, _, rfl, ht4, SqL.of hl4, zlh (k1 := .t) (k2 := .l) (a := t) (b := c) (xs := (xE (zZ l)).map v6) (ys := (zZ l).tail.map wI) (fun σ => ∃ u v, σ = [u, v]) (fun i ys H5 => Same H4 H5 /\ ys = (((xE (zZ l)).zip (zZ l).tail).take i).map fun p => V.bl (xX p.1 p.2)) ⟨_, _, rfl⟩ ⟨Same.refl _, rfl⟩ (by rw [Qj]; exact Jv (show _ <= 1000 by lia) (by decide)) (fun i ys H5 _ z => ⟨z.1.tup ht4, SqL.of (z.1 _ _ hl4)⟩) (by rw [Qj, Qj]; lia) ?_ ?_⟩
      ·rintro i x y p zs σ H5 N hx hy ⟨u, v, rfl⟩ ⟨sm, rfl⟩ hp hN;rw [Q8] at hx hy;obtain ⟨kd, ekd, rfl⟩ := Option.map_eq_some_iff.mp hx;obtain ⟨wd, ewd, rfl⟩ := Option.map_eq_some_iff.mp hy;refine ⟨p, _, rfl, SqT.of zB, rfl, _, _, rfl, _, _, rfl, rfl, ?_⟩;dsimp only [xH, List.set];refine zaw ?_;refine ⟨_, rfl, _, rfl, kd, wd, rfl, wa wd (List.mem_of_mem_tail (Q6 ewd)), fun H6 s6 => ?_⟩;refine hN _ _ _ ⟨_, _, rfl⟩ ⟨(sm.trans (Same.new hp)).trans s6, ?_⟩ (by simp);have ez : ((xE (zZ l)).zip (zZ l).tail)[i]? = some (kd, wd) := by rw [List.getElem?_zip_eq_some]; exact ⟨ekd, ewd⟩
       rw [zW ez, Qp];rfl
      ·rintro zs H5 ⟨sm, rfl⟩ r hr';rw [Qj, Jh (by rw [List.length_zip]; lia)];refine ⟨r, ((xE (zZ l)).zip (zZ l).tail).map fun p => xX p.1 p.2, rfl, SqL.of (by rw [zB, Jt]; rfl), ?_⟩;rw [<- zpb _ _ tl];have s6 := ((s13.trans s4).trans sm).trans (Same.new (o := HO.lst (((xE (zZ l)).zip (zZ l).tail).map fun p => V.bl (xX p.1 p.2))) hr');have hb6 := ((s3.trans s4).trans sm).trans (Same.new (o := HO.lst (((xE (zZ l)).zip (zZ l).tail).map fun p => V.bl (xX p.1 p.2))) hr') _ _ hb;refine ⟨_, rfl, ?_⟩;cases hf : vM (xE (zZ l)) (zZ l).tail with
       | true =>
        rw [hf, if_pos rfl] at wsn;exact yR ⟨_, rfl, q _ wsn b _ s6 hb6⟩
       | false =>
        rw [hf, if_neg (by decide)] at wsn;exact xK ⟨by show 1 <= 100; decide, qe wsn _ s6⟩
     ·have hne : decide (V.int (((zZ l).length : Int) - 1) = V.int ((xE (zZ l)).length : Int)) = false := Qv fun z => by
       have := V.int.inj z;lia
      rw [hne];rw [if_neg hn] at wsn;exact xK ⟨by show 1 <= 100; decide, qe wsn _ s13⟩
    clear hM;refine ⟨_, rfl, a, _, _, _, rfl, rfl, SqL.of hl, i0, rfl, _, rfl, ?_⟩;rw [wN zpk];by_cases hweb : w0 = zbf
    ·rw [Qb hweb];refine xK ⟨_, rfl, rfl, _, 32, rfl, congrArg (fun z => [V.str z, V.int 2]) jB, by decide, by rw [L]; have := as.2; lia, fun b hb => ?_⟩;rw [yK];refine go b _ (s1.trans (Same.new hb)) ?_;rw [zB];unfold zZ;rw [hw, if_pos hweb];rfl
    ·rw [Qv hweb];refine yR (go a _ s1 ?_);unfold zZ;rw [hw, if_neg hweb];exact hl
end
def zej (CS : Addr) : Sp := fun vs H Q E => ∃ (wv : V) (n : Int) (ps : List (Int × Int)) (k : Int), vs = [wv, .int k] /\ WebAt H wv n ps /\ (inR k ps.length = true -> Q .non H) /\ (inR k ps.length = false -> E (.ref CS) none H)
def zay (CS : Addr) : Sp := fun vs H _ E => ∃ (wv : V) (n : Int) (ps : List (Int × Int)) (k : Int), vs = [wv, .int k] /\ WebAt H wv n ps /\ inR k ps.length = false /\ E (.ref CS) none H
def zie (CN : Addr) (l : Int) : Sp := fun vs H _ E => ∃ (wv : V) (k : Int), vs = [wv, .int k] /\ k < l /\ E (.ref CN) none H
def zvz (CS : Addr) : Sp := fun vs H Q E => ∃ (wv : V) (n : Int) (ps : List (Int × Int)) (l : Addr) (ks : List Int), vs = [wv, .ref l] /\ WebAt H wv n ps /\ ps.length <= 8 /\ H l = some (.lst (ks.map V.int)) /\ ks.length <= 900 /\
 (jT ps.length ks = false -> ∀ H', Same H H' -> E (.ref CS) none H') /\ (jT ps.length ks = true -> ∀ (t : Addr) (ms : List Int) (H' : Hp), ms.Perm ks -> Same H H' -> H' t = some (.tup (ms.map V.int)) -> Q (.ref t) H')
theorem zpo (k : Int) (m : Nat) : xD 0 ((m : Int) - 1) (.int k) = inR k m := by
 show (decide (0 <= k) && decide (k <= (m : Int) - 1)) = (decide (0 <= k) && decide (k < (m : Int)));rw [decide_eq_decide.mpr (show k <= (m : Int) - 1 ↔ k < (m : Int) by lia)]
theorem inR_iff {k m : Int} : inR k m = true ↔ 0 <= k /\ k < m := by unfold inR; simp
theorem goodP_iff {m : Nat} {ks : List Int} : jT m ks = true ↔ (∀ k ∈ ks, 0 <= k /\ k < (m : Int)) /\ ks.Nodup := by
 unfold jT;rw [Qm, Jy, decide_eq_true_eq];exact ⟨fun h => ⟨fun k hk => inR_iff.mp (h.1 k hk), h.2⟩, fun h => ⟨fun k hk => inR_iff.mpr (h.1 k hk), h.2⟩⟩
theorem zep {m : Nat} {ks : List Int} (h : jT m ks = true) : ks.length <= m := by
 obtain ⟨h1, h2⟩ := goodP_iff.mp h;have p : ks.Perm ((ups (m : Int)).filter fun k => decide (k ∈ ks)) := (List.perm_ext_iff_of_nodup h2 (((zvt m).imp fun h => Int.ne_of_lt h).filter _)).mpr fun k => by
  rw [List.mem_filter, decide_eq_true_eq];exact ⟨fun h => ⟨mem_ups.mpr (h1 k h), h⟩, fun h => h.2⟩
 have l := List.length_filter_le (fun k => decide (k ∈ ks)) (ups (m : Int));rw [xY] at l;rw [p.length_eq];lia
section
variable {ps : List (Int × Int)} {ks ms : List Int} {n u v x : Int}
theorem zug (h : ms.Perm ks) (k : Int) : decide (k ∈ ms) = decide (k ∈ ks) := decide_eq_decide.mpr h.mem_iff
theorem zeq (h : ms.Perm ks) : zlb ps ms x = zlb ps ks x := by
 unfold zlb;rw [Jd, List.any_eq_true, List.any_eq_true];constructor
 ·rintro ⟨b, hb, e⟩;exact ⟨b, (h.map _).mem_iff.mp hb, e⟩
 ·rintro ⟨b, hb, e⟩;exact ⟨b, (h.map _).mem_iff.mpr hb, e⟩
theorem zbn (h : ms.Perm ks) (m : Nat) : v5 m ms = v5 m ks := by
 unfold v5;exact List.filter_congr fun k _ => by rw [zug h]
theorem zpp (h : ms.Perm ks) : zib n u v ps ms = zib n u v ps ks := by
 unfold zib;exact List.map_congr_left fun k _ => by simp only [h.mem_iff]
theorem zna (h : zfn n u v ps ks = none) : ApB n u v ps ks := fun x x0 xn xu xv e1 e2 => by
 have := List.find?_eq_none.mp h x (mem_ups.mpr ⟨x0, xn⟩);simp [xu, xv, e1, e2] at this
theorem zpc : ∀ {l : List Int} {f : Int -> Bool} {x : Int}, l.Pairwise (· < ·) -> l.find? f = some x -> x ∈ l /\ f x = true /\ ∀ y ∈ l, y < x -> f y = false
 | [], _, _, _, h => by cases h
 | a :: l, f, x, hp, h => by
  rw [Jf] at h;split at h
  ·rename_i e
   cases h
   refine ⟨Qg, e, fun y hy yx => ?_⟩;rcases Qy.mp hy with rfl | hy
   ·exact absurd yx (Int.lt_irrefl _)
   ·have := List.rel_of_pairwise_cons hp hy;lia
  ·rename_i e
   obtain ⟨h1, h2, h3⟩ := zpc (List.Pairwise.of_cons hp) h;refine ⟨Qk _ h1, h2, fun y hy yx => ?_⟩;rcases Qy.mp hy with rfl | hy
   ·simpa using e
   ·exact h3 y hy yx
theorem zmz (h : zfn n u v ps ks = some x) : znu n u v ps ks x := by
 obtain ⟨h1, h2, h3⟩ := zpc (zvt n) h;obtain ⟨x0, xn⟩ := mem_ups.mp h1;simp only [Qm, Bool.not_eq_true', decide_eq_false_iff_not] at h2;refine ⟨x0, xn, ⟨h2.1.1.1, h2.1.1.2, h2.1.2, h2.2⟩, fun y y0 yx ⟨m1, m2, m3, m4⟩ => ?_⟩;have := h3 y (mem_ups.mpr ⟨y0, by lia⟩) yx;simp [m1, m2, m3, m4] at this
end
section
variable {P : Program} {w : World} {K : W.Frag} {mg : Str -> Option Value} {base : Heap} {CS CN : Addr} {bs bn : List Value}
theorem zyc : zR ["web", "k"] ["web", "k"] (zH zij) := ⟨rfl, rfl, rfl, by decide +kernel, rfl, by decide +kernel, by decide +kernel⟩
theorem zvb (T : Txt K mg) (hs : mg "NoSuch" = some (.ref CS)) (xs : vH K CS bs = true) (S : Src K mg "refuse_no_tie_of" zij ["web", "k"]) (D : Def P w K mg base 2 "is_whole_within" ["thing", "least", "greatest"] (jE K)) : y9 P w K mg base 3 "refuse_no_tie_of" ["web", "k"] (zej CS) := by
 refine Src.defQ S zyc (fun vs H Q E h => ?_) (fun f cdv A outer s H vs Q E hr h => ?_)
 ·obtain ⟨_, _, _, _, rfl, _⟩ := h; rfl
 ·obtain ⟨wv, n, ps, k, rfl, W, q, qe⟩ := h;obtain ⟨c, d, zs, rfl, hc, hd, ht⟩ := W.ex;have xl : zs.length = ps.length := Paired.length ht;refine ⟨_, zG (yL (vF (wG (yC D hr rfl (zA (pv 1) (zA zF (zA (zN j5 (zM (xT K) (by rfl) T.len PySem.boot_len (zA (zT (zY K) (pv 0) zF (fun _ _ => rfl)) zC)) zF) zC)))))) (zG (yO rfl hs xs (zA zE zC))) zQ), ?_⟩;have i1 : atI ([.int n, .ref d] : List V) 1 = some (.ref d) := zJ (j := 1) rfl;refine ⟨_, rfl, _, rfl, c, _, _, _, rfl, rfl, SqT.of hc, i1, d, zs, rfl, .inr (SqT.of hd), _, _, rfl, rfl, .int k, 0, (zs.length : Int) - 1, rfl, vG K H k, ?_⟩;rw [zpo, xl];cases e : inR k ps.length with
  | true => exact ⟨_, rfl, yR (q e)⟩
  | false => exact ⟨_, rfl, xK ⟨by decide, qe e⟩⟩
theorem zDd : zR ["web", "k"] ["web", "k"] (zH zry) := ⟨rfl, rfl, rfl, by decide +kernel, rfl, by decide +kernel, by decide +kernel⟩
theorem zAo (S : Src K mg "left_out" zry ["web", "k"]) (DN : y9 P w K mg base 3 "refuse_no_tie_of" ["web", "k"] (zej CS)) : y9 P w K mg base 4 "left_out" ["web", "k"] (zay CS) := by
 refine Src.defQ S zDd (fun vs H Q E h => ?_) (fun f cdv A outer s H vs Q E hr h => ?_)
 ·obtain ⟨_, _, _, _, rfl, _⟩ := h; rfl
 ·obtain ⟨wv, n, ps, k, rfl, W, e, q⟩ := h;refine ⟨_, zD (xI (yB DN hr rfl (zA (pv 0) (zA (pv 1) zC)))) x8, ?_⟩;exact ⟨_, rfl, _, rfl, wv, n, ps, k, rfl, W, fun z => (by rw [e] at z; cases z), fun _ => q⟩
theorem scDrawn : zR ["web", "k", "rest", "low", "high", "ties"] ["web", "k"] (zH zir) := ⟨rfl, rfl, rfl, by decide +kernel, rfl, by decide +kernel, by decide +kernel⟩
theorem zvg (S : Src K mg "drawn_together" zir ["web", "k"]) (DL : y9 P w K mg base 4 "left_out" ["web", "k"] (zay CS)) : y9 P w K mg base 5 "drawn_together" ["web", "k"] (zay CS) := by
 refine Src.defQ S scDrawn (fun vs H Q E h => ?_) (fun f cdv A outer s H vs Q E hr h => ?_)
 ·obtain ⟨_, _, _, _, rfl, _⟩ := h; rfl
 ·obtain ⟨wv, n, ps, k, rfl, W, e, q⟩ := h;refine ⟨_, zD (zU (i := 2) scDrawn.nd rfl (Or.inl rfl) (yB DL hr rfl (zA (pv 0) (zA (pv 1) zC)))) x8, ?_⟩;exact ⟨_, rfl, _, rfl, wv, n, ps, k, rfl, W, e, q⟩
theorem zGm : zR ["thing", "least"] ["thing", "least"] (zH zBq) := ⟨rfl, rfl, rfl, by decide +kernel, rfl, by decide +kernel, by decide +kernel⟩
def zng (CN : Addr) : Sp := fun vs H _ E => ∃ (k l : Int), vs = [.int k, .int l] /\ (l = 0 \/ l = 1) /\ k < l /\ E (.ref CN) none H
theorem zEk (hn : mg "NoNumber" = some (.ref CN)) (xn : vH K CN bn = true) (S : Src K mg "refuse_less_than" zBq ["thing", "least"]) (D : Def P w K mg base 1 "is_whole" ["thing"] (zhf K)) : y9 P w K mg base 2 "refuse_less_than" ["thing", "least"] (zng CN) := by
 refine Src.defQ S zGm (fun vs H Q E h => ?_) (fun f cdv A outer s H vs Q E hr h => ?_)
 ·obtain ⟨_, _, rfl, _⟩ := h; rfl
 ·obtain ⟨k, l, rfl, hl, kl, q⟩ := h;refine ⟨_, zG (yL (PW.pt (zit (vF (wG (yC D hr rfl (zA (pv 0) zC)))) (zcr (zP zxh (pv 0) (pv 1) (yA _))))) (zG (yO rfl hn xn (zA (wZ (yW zE (yW (vR (pv 1)) (yW zE j4)))) zC))) zQ), ?_⟩;refine ⟨_, rfl, .int k, rfl, vG K H k, _, rfl, yR ⟨_, rfl, _, rfl, _, _, rfl, rfl, _, rfl, ?_⟩⟩;rw [Qb kl];rcases hl with rfl | rfl
  ·exact xK ⟨_, rfl, by decide +kernel, _, rfl, 0, rfl, by decide +kernel, _, rfl, by decide +kernel, _, rfl, by decide +kernel, by decide +kernel, by show 1 <= 100; decide, q⟩
  ·exact xK ⟨_, rfl, by decide +kernel, _, rfl, 1, rfl, by decide +kernel, _, rfl, by decide +kernel, _, rfl, by decide +kernel, by decide +kernel, by show 1 <= 100; decide, q⟩
theorem ztg : zR ["web", "q"] ["web", "q"] (zH zdq) := ⟨rfl, rfl, rfl, by decide +kernel, rfl, by decide +kernel, by decide +kernel⟩
theorem zri (S : Src K mg "colour_count" zdq ["web", "q"]) (DR : y9 P w K mg base 2 "refuse_less_than" ["thing", "least"] (zng CN)) : y9 P w K mg base 3 "colour_count" ["web", "q"] (zie CN 0) := by
 refine Src.defQ S ztg (fun vs H Q E h => ?_) (fun f cdv A outer s H vs Q E hr h => ?_)
 ·obtain ⟨_, _, rfl, _⟩ := h; rfl
 ·obtain ⟨wv, k, rfl, kl, q⟩ := h;refine ⟨_, zD (xI (yB DR hr rfl (zA (pv 1) (zA zF zC)))) x8, ?_⟩;exact ⟨_, rfl, k, 0, rfl, .inl rfl, kl, q⟩
theorem ztf : zR ["web", "q"] ["web", "q"] (zH zdp) := ⟨rfl, rfl, rfl, by decide +kernel, rfl, by decide +kernel, by decide +kernel⟩
theorem zrh (S : Src K mg "flow_count" zdp ["web", "q"]) (DR : y9 P w K mg base 2 "refuse_less_than" ["thing", "least"] (zng CN)) : y9 P w K mg base 3 "flow_count" ["web", "q"] (zie CN 1) := by
 refine Src.defQ S ztf (fun vs H Q E h => ?_) (fun f cdv A outer s H vs Q E hr h => ?_)
 ·obtain ⟨_, _, rfl, _⟩ := h; rfl
 ·obtain ⟨wv, k, rfl, kl, q⟩ := h;refine ⟨_, zD (xI (yB DR hr rfl (zA (pv 1) (zA zF zC)))) x8, ?_⟩;exact ⟨_, rfl, k, 1, rfl, .inr rfl, kl, q⟩
theorem scPickOf : zR ["web", "numbers", "pick", "k"] ["web", "numbers"] (zH zdm) := ⟨rfl, rfl, rfl, by decide +kernel, rfl, by decide +kernel, by decide +kernel⟩
theorem zqw {m : Nat} {ks : List Int} {i : Nat} {k : Int} (e : ks[i]? = some k) (g : jT m (ks.take i) = true) (h1 : inR k m = true) (h2 : k ∉ ks.take i) : jT m (ks.take (i + 1)) = true := by
 obtain ⟨g1, g2⟩ := goodP_iff.mp g;rw [zW e];refine goodP_iff.mpr ⟨fun x hx => ?_, ?_⟩
 ·rcases Q5.mp hx with hx | hx
  ·exact g1 x hx
  ·rw [Q3.mp hx]; exact inR_iff.mp h1
 ·rw [List.nodup_append];exact ⟨g2, by simp, fun a ha b hb z => h2 (by rw [<- Q3.mp hb, <- z]; exact ha)⟩
theorem zll {m : Nat} {ks : List Int} {i : Nat} {k : Int} (e : ks[i]? = some k) (h : inR k m = false \/ k ∈ ks.take i) : jT m ks = false := by
 cases g : jT m ks with
 | false => rfl
 | true =>
  obtain ⟨g1, g2⟩ := goodP_iff.mp g;rcases h with h | h
  ·rw [inR_iff.mpr (g1 k (Q6 e))] at h;cases h
  ·exfalso;rw [<- List.take_append_drop i ks, List.nodup_append] at g2;have : k ∈ ks.drop i := Q6 (i := 0) (by rw [Wq]; exact e);exact g2.2.2 k h k this rfl
theorem zEl (T : Txt K mg) (hs : mg "NoSuch" = some (.ref CS)) (xs : vH K CS bs = true) (S : Src K mg "pick_of" zdm ["web", "numbers"]) (DN : y9 P w K mg base 3 "refuse_no_tie_of" ["web", "k"] (zej CS)) : y9 P w K mg base 4 "pick_of" ["web", "numbers"] (zvz CS) := by
 refine Src.defQ S scPickOf (fun vs H Q E h => ?_) (fun f cdv A outer s H vs Q E hr h => ?_)
 ·obtain ⟨_, _, _, _, _, rfl, _⟩ := h; rfl
 ·obtain ⟨wv, n, ps, l, ks, rfl, W, p8, hl, k9, qe, q⟩ := h;refine ⟨_, zD (zU (i := 2) scPickOf.nd rfl (Or.inl rfl) (yF zC))
   (zD (zaa PassesOwn.leaving rfl (wK K .l (pv 1)) (yE (i := 3) scPickOf.nd rfl (Or.inl rfl))
    (zD (xI (yB DN hr rfl (zA (pv 0) (zA (pv 3) zC))))
    (zD (yL (zP (r := rIn K false) qZ (pv 3) (pv 2) rfl) (zG (yO rfl hs xs (zA zE zC))) zQ)
    (zG (xI (kS PySem.F.plainAttrs_list PySem.F.slot_list_append PySem.F.type_list_append kW (pv 2) (zA (pv 3) zC)))))))
   (zG (zV (yG (x6 K) rfl T.tuple wD (zA (zM zhb (by rfl) T.sorted zhd (zA (pv 2) zC)) zC))))), ?_⟩
  refine ⟨Jw _, fun p hp => ?_⟩;have s1 := Same.new (o := HO.lst []) hp;have h1 : (upd H p (.lst [])) p = some (.lst []) := zB;generalize upd H p (.lst []) = H1 at s1 h1 ⊢;refine ⟨_, rfl, l, rfl, ⟨_, SqL.of (s1 _ _ hl)⟩, zpa (k := .l) (a := l) (xs := ks.map V.int) (fun i σ H2 => (∃ u, σ = [some wv, some (.ref l), some (.ref p), u]) /\ Same H H2 /\ H2 p = some (.lst ((ks.take i).map V.int)) /\ jT ps.length (ks.take i) = true) ⟨⟨_, rfl⟩, s1, h1, rfl⟩ (fun i σ H2 _ z => SqL.of (z.2.1 _ _ hl)) ?_ ?_⟩
  ·rintro i x σ H2 hx ⟨⟨u, rfl⟩, sm, hp2, g⟩;obtain ⟨k, ek, rfl⟩ := kM hx;have gl := zep g;dsimp only [xH, List.set];refine ⟨_, rfl, _, rfl, wv, n, ps, k, rfl, W.same sm, fun good => ?_, fun bad => qe (zll ek (.inl bad)) H2 sm⟩;refine ⟨_, rfl, _, rfl, p, (ks.take i).map V.int, rfl, .inl (SqL.of hp2), rfl, zau _, _, rfl, ?_⟩;rw [qX];by_cases hm : k ∈ ks.take i
   ·rw [Qb hm];exact xK ⟨by show 1 <= 100; decide, qe (zll ek (.inr hm)) H2 sm⟩
   ·rw [Qv hm];refine yR ⟨_, rfl, .inl ⟨rfl, _, SqL.of hp2⟩, _, rfl, p, _, _, rfl, rfl, hp2, by rw [Qj]; exact qI (by lia), ?_⟩;refine ⟨⟨_, rfl⟩, wO sm hp, ?_, zqw ek g good hm⟩;rw [zB, zW ek, Qp];rfl
  ·rintro σ H2 ⟨⟨u, rfl⟩, sm, hp2, g⟩;rw [Qj, Jz] at hp2 g;have gl := zep g;refine ⟨_, rfl, p, ks, rfl, SqL.of hp2, by lia, fun r ms pm _ hr' => ?_⟩;have s3 := Same.new (o := HO.lst (ms.map V.int)) hr';refine ⟨r, _, rfl, .inl ⟨SqL.of zB, fun t ht => ?_⟩⟩;exact q g t ms _ pm ((sm.trans s3).trans (Same.new ht)) zB
end
def zFt (c : Fin 10 -> Addr) (H : Hp) (Q : VK) (E : XK) : Out -> Prop
 | .exc i => ∀ od H', Same H H' -> E (.ref (c i)) od H'
 | .str w => ∀ H', Same H H' -> Q (wI w) H'
 | .made n qs => ∀ wv H', Same H H' -> WebAt H' wv n qs -> Q wv H'
 | .any => False
def ThAt (H : Hp) (v : V) : Th -> Prop
 | .txt w => v = wI w /\ Asc w
 | .web n ps => WebAt H v n ps /\ qH n ps
 | .num i => v = .int i
theorem ThAt.same {H H' : Hp} {v : V} {t : Th} (h : ThAt H v t) (s : Same H H') : ThAt H' v t := by
 cases t with
 | txt w => exact h
 | web n ps => exact ⟨h.1.same s, h.2⟩
 | num i => exact h
def zke (c : Fin 10 -> Addr) : Sp := fun vs H Q E => ∃ (f : List Nat) (l : Addr) (xs : List V) (ths : List Th), vs = [wI f, .ref l] /\ H l = some (.lst xs) /\ xs.length <= 900 /\ Paired (ThAt H) xs ths /\ zFt c H Q E (zar f ths)
def zkb (c : Fin 10 -> Addr) : Sp := fun vs H Q E => ∃ (f : List Nat) (l : Addr) (xs : List V) (ths : List Th), vs = [wI f, .ref l] /\ H l = some (.lst xs) /\ Paired (ThAt H) xs ths /\ zFt c H Q E (zaj f ths)
theorem zoq {H : Hp} : ∀ {r : List Th} {ks : List Int} {xs : List V}, ziv r = some ks -> Paired (ThAt H) xs r -> xs = ks.map V.int
 | [], ks, xs, e, h => by
  cases e
  cases h
  rfl
 | .num i :: r, ks, xs, e, h => by
  replace e : (ziv r).map (i :: ·) = some ks := e
  obtain ⟨js, ej, rfl⟩ := Option.map_eq_some_iff.mp e;cases h with
  | cons a b =>
   rw [zoq ej b, show _ = V.int i from a];rfl
 | .txt _ :: _, _, _, e, _ => by cases e
 | .web _ _ :: _, _, _, e, _ => by cases e
theorem zCh (a b c d : V) (xs : List V) : zhy (a :: b :: c :: d :: xs) (some 4) none = xs := by
 unfold zhy;have e1' : HT.sIx (a :: b :: c :: d :: xs).length 0 (some 4) = min 4 (a :: b :: c :: d :: xs).length := HT.sIx_nat (a :: b :: c :: d :: xs).length 0 4;have e2' : HT.sIx (a :: b :: c :: d :: xs).length (a :: b :: c :: d :: xs).length none = (a :: b :: c :: d :: xs).length := rfl;rw [e1', e2'];simp
theorem zjc {K : W.Frag} {H : Hp} {k : Int} {n : Int} (h : inR k n = false) : zsj K H n (.int k) := by
 refine ⟨vG K H k, ?_⟩;rw [<- h];show (decide (0 <= k) && decide (k <= n - 1)) = (decide (0 <= k) && decide (k < n));rw [decide_eq_decide.mpr (show k <= n - 1 ↔ k < n by lia)]
theorem zFg {c : Fin 10 -> Addr} {H : Hp} {Q : VK} {E : XK} {r : Res} (o : zFt c H Q E (zBs r)) : Ans (c 0) (c 1) (c 2) (c 3) H Q E r := by
 cases r with
 | text => exact fun H' s => o none H' s
 | web => exact fun H' s => o none H' s
 | many => exact fun H' s => o none H' s
 | tie k => exact fun dx H' s _ => o (some dx) H' s
 | ok m qs => exact fun wv H' s W => o wv H' s W
section
variable {P : Program} {w : World} {K : W.Frag} {mg : Str -> Option Value} {base : Heap} {c : Fin 10 -> Addr}
theorem ztc : zR ["first", "things"] ["first", "things"] (zH zdn) := ⟨rfl, rfl, rfl, by decide +kernel, rfl, by decide +kernel, by decide +kernel⟩
theorem zvd (S : Src K mg "made_by" zdn ["first", "things"]) (DR : y9 P w K mg base 5 "read_web" ["text"] (zvy K (c 0) (c 1) (c 2) (c 3))) (DL : y9 P w K mg base 4 "left_out" ["web", "k"] (zay (c 4))) (DD : y9 P w K mg base 5 "drawn_together" ["web", "k"] (zay (c 4)))
  (DB : y9 P w K mg base 4 "laid_beside" ["one", "other"] (zBm (c 2))) (DA : y9 P w K mg base 4 "laid_at" ["one", "p", "other", "q"] (zBj (c 2))) (DAB : y9 P w K mg base 4 "laid_at" ["one", "p", "other", "q"] (zwd K (c 5)))
  (DP : y9 P w K mg base 4 "pick_of" ["web", "numbers"] (zvz (c 4))) (DTB : y9 P w K mg base 4 "turned_over" ["web", "pick", "u", "v"] (zoc K (c 5))) (DTN : y9 P w K mg base 4 "turned_over" ["web", "pick", "u", "v"] (zob K (c 6))) (DT : Def P w K mg base 4 "turned_over" ["web", "pick", "u", "v"] (zvx K)) :
  y9 P w K mg base 6 "made_by" ["first", "things"] (zke c) := by
 refine Src.defQ S ztc (fun vs H Q E h => ?_) (fun f cdv A outer s H vs Q E hr h => ?_)
 ·obtain ⟨_, _, _, _, rfl, _⟩ := h; rfl
 ·obtain ⟨f, l, xs, ths, rfl, hl, xl, hp, o⟩ := h;have hr4 : Room 4 _ := hr.mono (by decide);refine ⟨_, zD (yL (zP wA (pv 0) zE (yA _)) (zG (zV (yB DR hr rfl (zA (zT (zO K) (pv 1) zF (fun _ _ => rfl)) zC)))) zQ)
   (zD (yL (zP wA (pv 0) zE (yA _)) (zG (zV (yB DL hr4 rfl (zA (zT (zO K) (pv 1) zF (fun _ _ => rfl)) (zA (zT (zO K) (pv 1) zF (fun _ _ => rfl)) zC))))) zQ)
   (zD (yL (zP wA (pv 0) zE (yA _)) (zG (zV (yB DD hr rfl (zA (zT (zO K) (pv 1) zF (fun _ _ => rfl)) (zA (zT (zO K) (pv 1) zF (fun _ _ => rfl)) zC))))) zQ)
   (zD (yL (zP wA (pv 0) zE (yA _)) (zG (zV (yB DB hr4 rfl (zA (zT (zO K) (pv 1) zF (fun _ _ => rfl)) (zA (zT (zO K) (pv 1) zF (fun _ _ => rfl)) zC))))) zQ)
   (zD (yL (zP wA (pv 0) zE (yA _)) (zG (zV (zac (yB DA hr4 rfl (zA (zT (zO K) (pv 1) zF (fun _ _ => rfl)) (zA (zT (zO K) (pv 1) zF (fun _ _ => rfl)) (zA (zT (zO K) (pv 1) zF (fun _ _ => rfl)) (zA (zT (zO K) (pv 1) zF (fun _ _ => rfl)) zC)))))
     (yB DAB hr4 rfl (zA (zT (zO K) (pv 1) zF (fun _ _ => rfl)) (zA (zT (zO K) (pv 1) zF (fun _ _ => rfl)) (zA (zT (zO K) (pv 1) zF (fun _ _ => rfl)) (zA (zT (zO K) (pv 1) zF (fun _ _ => rfl)) zC)))))))) zQ)
   (zG (zV (zac (zac
     (yB DTB hr4 rfl (zA (zT (zO K) (pv 1) zF (fun _ _ => rfl)) (zA (yB DP hr4 rfl (zA (zT (zO K) (pv 1) zF (fun _ _ => rfl)) (zA (wP (wX K) (pv 1) (wJ zF) qF) zC))) (zA (zT (zO K) (pv 1) zF (fun _ _ => rfl)) (zA (zT (zO K) (pv 1) zF (fun _ _ => rfl)) zC)))))
     (yB DTN hr4 rfl (zA (zT (zO K) (pv 1) zF (fun _ _ => rfl)) (zA (yB DP hr4 rfl (zA (zT (zO K) (pv 1) zF (fun _ _ => rfl)) (zA (wP (wX K) (pv 1) (wJ zF) qF) zC))) (zA (zT (zO K) (pv 1) zF (fun _ _ => rfl)) (zA (zT (zO K) (pv 1) zF (fun _ _ => rfl)) zC))))))
     (yC DT hr4 rfl (zA (zT (zO K) (pv 1) zF (fun _ _ => rfl)) (zA (yB DP hr4 rfl (zA (zT (zO K) (pv 1) zF (fun _ _ => rfl)) (zA (wP (wX K) (pv 1) (wJ zF) qF) zC))) (zA (zT (zO K) (pv 1) zF (fun _ _ => rfl)) (zA (zT (zO K) (pv 1) zF (fun _ _ => rfl)) zC)))))))))))), ?_⟩
  refine ⟨_, rfl, rfl, _, rfl, ?_⟩;rw [wN zpk];unfold zar at o;by_cases h1 : f = zbf
  ·rw [if_pos h1] at o;rw [Qb h1];split at o
   ·rename_i a z
    cases hp with
    | cons r1 t1 =>
     cases t1 with
     | cons r2 t2 =>
      cases t2
      obtain ⟨rfl, az⟩ := r2;exact xK ⟨_, rfl, l, _, _, _, rfl, rfl, SqL.of hl, zJ (j := 1) rfl, .inr ⟨z, rfl, az, zFg o⟩⟩
   ·exact o.elim
  ·rw [if_neg h1] at o;rw [Qv h1];refine yR ⟨_, rfl, rfl, _, rfl, ?_⟩;rw [wN zAs];have lef : (f = zfl \/ f = zcm) -> ∃ a v k n ps, xs = [a, v, .int k] /\ WebAt H v n ps /\ inR k ps.length = false /\ E (.ref (c 4)) none H := fun h2 => by
    rw [if_pos h2] at o;split at o
    ·rename_i a n ps k
     cases hp with
     | cons r1 t1 =>
      cases t1 with
      | cons r2 t2 =>
       cases t2 with
       | cons r3 t3 =>
        cases t3
        split at o
        ·exact o.elim
        ·rename_i e
         exact ⟨_, _, k, n, ps, by rw [show _ = V.int k from r3], r2.1, Ww.mpr e, o none H (Same.refl H)⟩
    ·exact o.elim
   by_cases h2 : f = zfl
   ·rw [Qb h2];obtain ⟨a, v, k, n, ps, rfl, W, e, q⟩ := lef (.inl h2);exact xK ⟨_, rfl, l, _, _, _, rfl, rfl, SqL.of hl, zJ (j := 1) rfl, _, rfl, l, _, _, _, rfl, rfl, SqL.of hl, zJ (j := 2) rfl, v, n, ps, k, rfl, W, e, q⟩
   ·rw [Qv h2];refine yR ⟨_, rfl, rfl, _, rfl, ?_⟩;rw [wN zvo];by_cases h3 : f = zcm
    ·rw [Qb h3];obtain ⟨a, v, k, n, ps, rfl, W, e, q⟩ := lef (.inr h3);exact xK ⟨_, rfl, l, _, _, _, rfl, rfl, SqL.of hl, zJ (j := 1) rfl, _, rfl, l, _, _, _, rfl, rfl, SqL.of hl, zJ (j := 2) rfl, v, n, ps, k, rfl, W, e, q⟩
    ·rw [Qv h3];refine yR ⟨_, rfl, rfl, _, rfl, ?_⟩;rw [wN zmv];rw [if_neg (fun z => z.elim h2 h3)] at o;by_cases h4 : f = zed
     ·rw [Qb h4];rw [if_pos h4] at o;split at o
      ·rename_i a n1 p1 n2 p2
       cases hp with
       | cons r1 t1 =>
        cases t1 with
        | cons r2 t2 =>
         cases t2 with
         | cons r3 t3 =>
          cases t3
          obtain ⟨W1, k1⟩ := r2;obtain ⟨W2, k2⟩ := r3;split at o
          ·rename_i big
           obtain ⟨m1, rfl⟩ := Q0 (show 0 <= n1 by have := k1.1.1; lia);obtain ⟨m2, rfl⟩ := Q0 (show 0 <= n2 by have := k2.1.1; lia);refine xK ⟨_, rfl, l, _, _, _, rfl, rfl, SqL.of hl, zJ (j := 1) rfl, _, rfl, l, _, _, _, rfl, rfl, SqL.of hl, zJ (j := 2) rfl, _, _, m1, m2, p1, p2, rfl, W1, W2, ⟨by have := k2.1.1; lia, k2.2.1⟩, by have := k2.1.2; lia, k1.2.2, k2.2.2, fun a b => ?_, fun _ H' s' => o none H' s'⟩;rw [Ql, Qj] at b;exfalso;rcases big with z | z
           ·lia
           ·lia
          ·exact o.elim
      ·exact o.elim
     ·rw [Qv h4];refine yR ⟨_, rfl, rfl, _, rfl, ?_⟩;rw [wN zvn];rw [if_neg h4] at o;by_cases h5 : f = gY
      ·rw [Qb h5];rw [if_pos h5] at o;split at o
       ·rename_i a n1 p1 p n2 p2 q
        cases hp with
        | cons r1 t1 =>
         cases t1 with
         | cons r2 t2 =>
          cases t2 with
          | cons r3 t3 =>
           cases t3 with
           | cons r4 t4 =>
            cases t4 with
            | cons r5 t5 =>
             cases t5
             obtain ⟨W1, k1⟩ := r2;obtain ⟨W2, k2⟩ := r4;obtain rfl : _ = V.int p := r3;obtain rfl : _ = V.int q := r5;refine xK ?_;split at o
             ·rename_i good
              rw [Qm, inR_iff, inR_iff] at good;obtain ⟨⟨p0, pn⟩, q0, qn⟩ := good;split at o
              ·rename_i big
               obtain ⟨m1, rfl⟩ := Q0 (show 0 <= n1 by have := k1.1.1; lia);obtain ⟨m2, rfl⟩ := Q0 (show 0 <= n2 by have := k2.1.1; lia);obtain ⟨p', rfl⟩ := Q0 p0;obtain ⟨q', rfl⟩ := Q0 q0;refine .inl ⟨_, rfl, l, _, _, _, rfl, rfl, SqL.of hl, zJ (j := 1) rfl, _, rfl, l, _, _, _, rfl, rfl, SqL.of hl, zJ (j := 2) rfl, _, rfl, l, _, _, _, rfl, rfl, SqL.of hl, zJ (j := 3) rfl, _, rfl, l, _, _, _, rfl, rfl, SqL.of hl, zJ (j := 4) rfl, _, _, m1, m2, p', q', p1, p2, rfl, W1, W2, ⟨by have := k2.1.1; lia, k2.2.1⟩, by have := k2.1.2; lia, k1.2.2, k2.2.2, by lia, by lia, fun a b => ?_, fun _ H' s' => o none H' s'⟩;rw [Ql, Qj] at b;exfalso;rcases big with z | z
               ·lia
               ·lia
              ·exact o.elim
             ·rename_i bad
              refine .inr ⟨_, rfl, l, _, _, _, rfl, rfl, SqL.of hl, zJ (j := 1) rfl, _, rfl, l, _, _, _, rfl, rfl, SqL.of hl, zJ (j := 2) rfl, _, rfl, l, _, _, _, rfl, rfl, SqL.of hl, zJ (j := 3) rfl, _, rfl, l, _, _, _, rfl, rfl, SqL.of hl, zJ (j := 4) rfl, _, _, .int p, .int q, n1, n2, p1, p2, rfl, W1, W2, ?_, o none H (Same.refl H)⟩;cases ep : inR p n1 with
              | false => exact .inl (zjc ep)
              | true =>
               refine .inr ⟨p, rfl, inR_iff.mp ep, zjc ?_⟩;rw [ep, Bool.true_and] at bad;exact Ww.mpr bad
       ·exact o.elim
      ·rw [Qv h5];rw [if_neg h5] at o;refine yR ?_;split at o
       ·rename_i a n ps u v r0
        cases hp with
        | cons r1 t1 =>
         cases t1 with
         | cons r2 t2 =>
          cases t2 with
          | cons r3 t3 =>
           cases t3 with
           | cons r4 t4 =>
            obtain ⟨W, ok⟩ := r2;obtain rfl : _ = V.int u := r3;obtain rfl : _ = V.int v := r4;split at o
            ·rename_i ks ek
             obtain rfl := zoq ek t4;clear t4 ek;have kl : ks.length <= 900 := by simp at xl; lia
             unfold zls at o;cases g : jT ps.length ks with
             | false =>
              rw [g, if_neg Qs] at o;refine .inl (.inl ⟨_, rfl, l, _, _, _, rfl, rfl, SqL.of hl, zJ (j := 1) rfl, _, rfl, l, _, _, _, rfl, rfl, SqL.of hl, zJ (j := 1) rfl, _, rfl, _, rfl, l, _, rfl, SqL.of hl, fun r hr' => ?_⟩);rw [zCh];exact ⟨_, n, ps, r, ks, rfl, W.same (Same.new hr'), ok.2.2, zB, kl, fun _ H' s' => o none H' ((Same.new hr').trans s'), fun z => by rw [g] at z; cases z⟩
             | true =>
              rw [g, if_pos rfl] at o;have gl := zep g;have gk := (goodP_iff.mp g).1;cases g2 : (inR u n && inR v n && !decide (u = v)) with
              | false =>
               rw [g2, if_neg Qs] at o;refine .inl (.inl ⟨_, rfl, l, _, _, _, rfl, rfl, SqL.of hl, zJ (j := 1) rfl, _, rfl, l, _, _, _, rfl, rfl, SqL.of hl, zJ (j := 1) rfl, _, rfl, _, rfl, l, _, rfl, SqL.of hl, fun r hr' => ?_⟩);rw [zCh];refine ⟨_, n, ps, r, ks, rfl, W.same (Same.new hr'), ok.2.2, zB, kl, (fun z => by rw [g] at z; cases z), fun _ t ms H2 pm s1 ht => ?_⟩;have s2 := (Same.new hr').trans s1;refine ⟨_, rfl, l, _, _, _, rfl, rfl, SqL.of (s2 _ _ hl), zJ (j := 2) rfl, _, rfl, l, _, _, _, rfl, rfl, SqL.of (s2 _ _ hl), zJ (j := 3) rfl, _, .ref t, .int u, .int v, n, ps, rfl, W.same s2, ?_, o none H2 s2⟩;cases eu : inR u n with
               | false => exact .inl (.inl (zjc eu))
               | true =>
                cases ev : inR v n with
                | false => exact .inl (.inr ⟨u, rfl, inR_iff.mp eu, zjc ev⟩)
                | true =>
                 rw [eu, ev] at g2;have : u = v := by simpa using g2
                 exact .inr ⟨u, rfl, by rw [this], inR_iff.mp eu⟩
              | true =>
               rw [g2, if_pos rfl] at o;simp only [Qm, inR_iff, Bool.not_eq_true', decide_eq_false_iff_not] at g2;obtain ⟨⟨gu, gv⟩, uv⟩ := g2;cases ax : zfn n u v ps ks with
               | some x =>
                rw [ax] at o;refine .inl (.inr ⟨_, rfl, l, _, _, _, rfl, rfl, SqL.of hl, zJ (j := 1) rfl, _, rfl, l, _, _, _, rfl, rfl, SqL.of hl, zJ (j := 1) rfl, _, rfl, _, rfl, l, _, rfl, SqL.of hl, fun r hr' => ?_⟩);rw [zCh];refine ⟨_, n, ps, r, ks, rfl, W.same (Same.new hr'), ok.2.2, zB, kl, (fun z => by rw [g] at z; cases z), fun _ t ms H2 pm s1 ht => ?_⟩;have s2 := (Same.new hr').trans s1;obtain ⟨l1, l2, l3, l4⟩ := zmz ax;refine ⟨_, rfl, l, _, _, _, rfl, rfl, SqL.of (s2 _ _ hl), zJ (j := 2) rfl, _, rfl, l, _, _, _, rfl, rfl, SqL.of (s2 _ _ hl), zJ (j := 3) rfl, _, t, n, ps, ms, u, v, x, rfl, W.same s2, ok, SqT.of ht, fun k hk => gk k (pm.mem_iff.mp hk), by rw [pm.length_eq]; have := ok.2.2; lia, gu, gv, uv, ⟨l1, l2, ?_, ?_⟩, fun dx H' s' _ => o (some dx) H' (s2.trans s')⟩
                ·exact ⟨l3.1, l3.2.1, by rw [zeq pm]; exact l3.2.2.1, by rw [zbn pm]; exact l3.2.2.2⟩
                ·rintro y y0 yx ⟨m1, m2, m3, m4⟩;exact l4 y y0 yx ⟨m1, m2, by rw [<- zeq pm]; exact m3, by rw [<- zbn pm]; exact m4⟩
               | none =>
                rw [ax] at o;refine .inr ⟨_, rfl, l, _, _, _, rfl, rfl, SqL.of hl, zJ (j := 1) rfl, _, rfl, l, _, _, _, rfl, rfl, SqL.of hl, zJ (j := 1) rfl, _, rfl, _, rfl, l, _, rfl, SqL.of hl, fun r hr' => ?_⟩;rw [zCh];refine ⟨_, n, ps, r, ks, rfl, W.same (Same.new hr'), ok.2.2, zB, kl, (fun z => by rw [g] at z; cases z), fun _ t ms H2 pm s1 ht => ?_⟩;have s2 := (Same.new hr').trans s1;have ap := zna ax;obtain ⟨m, rfl⟩ := Q0 (show 0 <= n by have := ok.1.1; lia);refine ⟨_, rfl, l, _, _, _, rfl, rfl, SqL.of (s2 _ _ hl), zJ (j := 2) rfl, _, rfl, l, _, _, _, rfl, rfl, SqL.of (s2 _ _ hl), zJ (j := 3) rfl, _, t, m, ps, ms, u, v, rfl, W.same s2, ok, SqT.of ht, fun k hk => gk k (pm.mem_iff.mp hk), by rw [pm.length_eq]; have := ok.2.2; lia, gu, gv, uv, fun x x0 xn xu xv e1 e2 => ap x x0 xn xu xv (by rw [<- zeq pm]; exact e1) (by rw [<- zbn pm]; exact e2), fun w' H' s' W' => o w' H' (s2.trans s') ?_⟩;rw [zpp pm] at W';exact W'
            ·exact o.elim
       ·exact o.elim
theorem scToldBy : zR ["first", "things", "web", "at"] ["first", "things"] (zH zdk) := ⟨rfl, rfl, rfl, by decide +kernel, rfl, by decide +kernel, by decide +kernel⟩
theorem zuz (T : Txt K mg) (S : Src K mg "told_by" zdk ["first", "things"]) (DW : Def P w K mg base 1 "web_text" ["web"] zoa) (DC : y9 P w K mg base 3 "colour_count" ["web", "q"] (zie (c 7) 0)) (DF : y9 P w K mg base 3 "flow_count" ["web", "q"] (zie (c 7) 1)) : y9 P w K mg base 4 "told_by" ["first", "things"] (zkb c) := by
 refine Src.defQ S scToldBy (fun vs H Q E h => ?_) (fun f cdv A outer s H vs Q E hr h => ?_)
 ·obtain ⟨_, _, _, _, rfl, _⟩ := h; rfl
 ·obtain ⟨f, l, xs, ths, rfl, hl, hp, o⟩ := h;have hr1 : Room 1 _ := hr.mono (by decide);refine ⟨_, zD (zU (i := 2) scToldBy.nd rfl (Or.inl rfl) (zT (zO K) (pv 1) zF (fun _ _ => rfl)))
   (zD (yL (zP wA (pv 0) zE (yA _)) (zG (zV (yC DW hr1 rfl (zA (pv 2) zC)))) zQ)
   (zD (yL (zP wA (pv 0) zE (yA _)) x8 zQ)
   (zD (yL (zP wA (pv 0) zE (yA _)) x8 zQ)
   (zD (yL (zP wA (pv 0) zE (yA _)) x8 zQ)
   (zD (yL (zP wA (pv 0) zE (yA _)) (zG (zV (yG wE rfl T.str w4 (zA (yB DC hr rfl (zA (pv 2) (zA (zT (zO K) (pv 1) zF (fun _ _ => rfl)) zC))) zC)))) zQ)
   (zD (yL (zP wA (pv 0) zE (yA _)) (zG (zV (yG wE rfl T.str w4 (zA (yB DF hr rfl (zA (pv 2) (zA (zT (zO K) (pv 1) zF (fun _ _ => rfl)) zC))) zC)))) zQ)
   x8)))))), ?_⟩
  unfold zaj at o;by_cases h1 : f = zfp
  ·rw [if_pos h1] at o;split at o
   ·rename_i n ps
    cases hp with
    | cons r1 t1 =>
     cases t1
     obtain ⟨W, ok⟩ := r1;refine ⟨_, rfl, l, _, _, _, rfl, rfl, SqL.of hl, zJ (j := 0) rfl, _, rfl, rfl, _, rfl, ?_⟩;rw [wN zli, Qb h1];exact xK ⟨_, rfl, _, n, ps, rfl, W, ok.1.1, ok.1.2, ok.2.1, ok.2.2, fun H' s' => o H' s'⟩
   ·exact o.elim
  ·rw [if_neg h1] at o;have num : (f = xQ \/ f = zcy) -> ∃ v q n ps, xs = [v, .int q] /\ WebAt H v n ps /\ ((f = xQ /\ q < 0) \/ (f = zcy /\ q < 1)) /\ E (.ref (c 7)) none H := fun hf => by
    by_cases h2 : f = xQ
    ·rw [if_pos h2] at o;split at o
     ·rename_i n ps q
      cases hp with
      | cons r1 t1 =>
       cases t1 with
       | cons r2 t2 =>
        cases t2
        obtain rfl : _ = V.int q := r2;split at o
        ·rename_i e
         exact ⟨_, q, n, ps, rfl, r1.1, .inl ⟨h2, e⟩, o none H (Same.refl H)⟩
        ·exact o.elim
     ·exact o.elim
    ·have h3 := hf.resolve_left h2;rw [if_neg h2, if_pos h3] at o;split at o
     ·rename_i n ps q
      cases hp with
      | cons r1 t1 =>
       cases t1 with
       | cons r2 t2 =>
        cases t2
        obtain rfl : _ = V.int q := r2;split at o
        ·rename_i e
         exact ⟨_, q, n, ps, rfl, r1.1, .inr ⟨h3, e⟩, o none H (Same.refl H)⟩
        ·exact o.elim
     ·exact o.elim
   by_cases hf : f = xQ \/ f = zcy
   ·obtain ⟨v, q, n, ps, rfl, W, alt, qe⟩ := num hf;refine ⟨_, rfl, l, _, _, _, rfl, rfl, SqL.of hl, zJ (j := 0) rfl, _, rfl, rfl, _, rfl, ?_⟩;rw [wN zli, Qv h1];refine yR ⟨_, rfl, rfl, _, rfl, ?_⟩;rw [wN zvm, Qv (fun z => by rcases hf with y | y <;> (rw [z] at y; exact absurd y (by decide)))];refine yR ⟨_, rfl, rfl, _, rfl, ?_⟩;rw [wN zvl, Qv (fun z => by rcases hf with y | y <;> (rw [z] at y; exact absurd y (by decide)))];refine yR ⟨_, rfl, rfl, _, rfl, ?_⟩;rw [wN zrk, Qv (fun z => by rcases hf with y | y <;> (rw [z] at y; exact absurd y (by decide)))];refine yR ⟨_, rfl, rfl, _, rfl, ?_⟩;rw [wN zjt];rcases alt with ⟨h2, e⟩ | ⟨h3, e⟩
    ·rw [Qb h2];exact xK ⟨_, rfl, _, rfl, l, _, _, _, rfl, rfl, SqL.of hl, zJ (j := 1) rfl, v, q, rfl, e, qe⟩
    ·rw [Qv (fun z => by rw [z] at h3; exact absurd h3 (by decide))];refine yR ⟨_, rfl, rfl, _, rfl, ?_⟩;rw [wN zrl, Qb h3];exact xK ⟨_, rfl, _, rfl, l, _, _, _, rfl, rfl, SqL.of hl, zJ (j := 1) rfl, v, q, rfl, e, qe⟩
   ·rw [if_neg (fun z => hf (.inl z)), if_neg (fun z => hf (.inr z))] at o;exact o.elim
end
theorem okQ {P : Program} {w : World} {K : W.Frag} {mg : Str -> Option Value} {base : Heap} {x qual : Str} {st : Stmt} {f : Addr} {fd : FuncData} {N ps : List Str} {k : Nat} {sp : Sp} (F : Fun K x qual st f fd) (S : zR N ps (zH st)) (len : ∀ vs H Q E, sp vs H Q E -> vs.length = ps.length)
  (hbody : ∀ (cdv : Value) (A : Around) (outer : List Env) (s : Shared) (H : Hp) (vs : List V) (Q : VK) (E : XK), Room k (A.deeper (PyProof.Rows.envOfC qual (zH st) s.heap.objs.size f cdv)) -> sp vs H Q E ->
   ∃ t, PSs (xU (CXq P w) P w K mg base N qual (zH st) f cdv A outer s H E) (xJ st) t /\ t { nx := fun _ H' => Q .non H', rt := Q } (qM N vs) H) : v9 P w K mg base (CXq P w) (k + 1) f fd ps sp := by
 obtain ⟨oc, od, kV, doc, pm, an, cdv, ct, osl, rfl, lk, hcd⟩ := F.ex;exact zxj lk hcd S len fun A outer s H vs Q E hr hsp => hbody cdv A outer s H vs Q E hr hsp
structure DC (K : W.Frag) (mg : Str -> Option Value) (CD : Addr) : Prop where
 gD : mg "Desk" = some (.ref CD)
 cl : Cls K CD
 nW : NoAttr K CD "webs"
 mI : ∃ f fd, Mk K CD f /\ Fun K "__init__" "Desk.__init__" gF f fd /\ Binds K fd ["self"] []
 mS : ∃ f fd, znd K CD "say" f /\ Fun K "say" "Desk.say" zkh f fd /\ Binds K fd ["self", "row"] []
 mT : ∃ f fd, znd K CD "thing_of" f /\ Fun K "thing_of" "Desk.thing_of" jG f fd /\ Binds K fd ["self", "kind", "word"] []
def fW (d : Addr) : List (Str × V) := zbc "webs" (.ref d) []
theorem zht (d : Addr) : (fW d).lookup ("webs" : Str) = some (.ref d) := by unfold fW; rw [vZ, if_pos rfl]
theorem zus (d : Addr) : (fW d).lookup ("thing_of" : Str) = none := by unfold fW; rw [vZ, if_neg (by decide +kernel)]; rfl
theorem zja (d : Addr) : (fW d).lookup ("say" : Str) = none := by unfold fW; rw [vZ, if_neg (by decide +kernel)]; rfl
abbrev zIm (H : Hp) (kv : Key × V) (e : List Nat × (Int × List (Int × Int))) : Prop := kv.1 = Sum.inr (mkS e.1) /\ WebAt H kv.2 e.2.1 e.2.2
structure DeskAt (CD : Addr) (H : Hp) (a d : Addr) (ks : qY) : Prop where
 ex : ∃ dx kvs, H a = some (.ins CD dx (fW d)) /\ H d = some (.dK kvs) /\ Paired (zIm H) kvs ks
 ok : ∀ e ∈ ks, qH e.2.1 e.2.2
 few : ks.length <= 100
theorem DeskAt.same {CD : Addr} {H H' : Hp} {a d : Addr} {ks : qY} (D : DeskAt CD H a d ks) (s : Same H H') : DeskAt CD H' a d ks := by
 obtain ⟨dx, kvs, h1, h2, h3⟩ := D.ex;exact ⟨⟨dx, kvs, s _ _ h1, s _ _ h2, L2.Paired.mapP h3 fun _ _ q => ⟨q.1, q.2.same s⟩⟩, D.ok, D.few⟩
theorem zeo {H : Hp} {w : List Nat} : ∀ {kvs : List (Key × V)} {ks : qY}, Paired (zIm H) kvs ks ->
  (ks.lookup w = none /\ zdh kvs (Sum.inr (mkS w)) = none) \/ ∃ n ps v, ks.lookup w = some (n, ps) /\ zdh kvs (Sum.inr (mkS w)) = some v /\ WebAt H v n ps /\ ∃ e ∈ ks, e.2 = (n, ps)
 | _, _, .nil => .inl ⟨rfl, rfl⟩
 | (k, v) :: kvs, (nm, n, ps) :: ks, .cons ⟨e, W⟩ t => by
  cases e
  by_cases h : nm = w
  ·subst h;refine .inr ⟨n, ps, v, ?_, zah rfl, W, _, Qg, rfl⟩;rw [Q7, beq_self_eq_true]
  ·have h2 : (w == nm) = false := beq_eq_false_iff_ne.mpr fun z => h z.symm;have h3 : ¬ (Sum.inr (mkS nm) : Key) = Sum.inr (mkS w) := fun z => h (zhp (Sum.inr.inj z));rw [Q7, h2, zai h3];rcases zeo t with z | ⟨n', ps', v', z1, z2, z3, e, z4, z5⟩
   ·exact .inl z
   ·exact .inr ⟨n', ps', v', z1, z2, z3, e, Qk _ z4, z5⟩
def zoj (CD : Addr) : Sp := fun vs H Q _ => ∃ a dx, vs = [.ref a] /\ H a = some (.ins CD dx []) /\ ∀ d, H d = none -> Q .non (upd (upd H d (.dK [])) a (.ins CD dx (fW d)))
def zhg (CD : Addr) (c : Fin 10 -> Addr) : Sp := fun vs H Q E => ∃ (a d : Addr) (ks : qY) (k : vJ) (w : List Nat), vs = [.ref a, v6 k, wI w] /\ DeskAt CD H a d ks /\ Asc w /\ xX k w = true /\
 (wF ks k w = none -> ∀ H', Same H H' -> E (.ref (c 9)) none H') /\ ∀ t, wF ks k w = some t -> ∀ v H', Same H H' -> ThAt H' v t -> Q v H'
section
variable {P : Program} {w : World} {K : W.Frag} {mg : Str -> Option Value} {base : Heap} {c : Fin 10 -> Addr} {CD : Addr}
theorem zyf : zR ["self"] ["self"] (zH gF) := ⟨rfl, rfl, rfl, by decide +kernel, rfl, by decide +kernel, by decide +kernel⟩
theorem zub {f : Addr} {fd : FuncData} (D : DC K mg CD) (F : Fun K "__init__" "Desk.__init__" gF f fd) : v9 P w K mg base CX0 1 f fd ["self"] (zoj CD) := by
 refine F.ok zyf (fun vs H Q E h => ?_) (fun cdv A outer s H vs Q E hr h => ?_)
 ·obtain ⟨_, _, rfl, _⟩ := h; rfl
 ·obtain ⟨a, dx, rfl, ha, q⟩ := h;refine ⟨_, zG (zDk (pv 0) ztv rfl), ?_⟩;intro d hd;exact ⟨_, rfl, a, CD, dx, _, rfl, by rw [zS (yD ha hd)]; exact ha, D.cl, D.nW, by decide, q d hd⟩
theorem zyb : zR ["self", "kind", "word"] ["self", "kind", "word"] (zH jG) := ⟨rfl, rfl, rfl, by decide +kernel, rfl, by decide +kernel, by decide +kernel⟩
theorem ztz {f : Addr} {fd : FuncData} {b9 : List Value} {tm : Tok} (T : Txt K mg) (D : DC K mg CD) (h9 : mg "NoName" = some (.ref (c 9))) (x9 : vH K (c 9) b9 = true) (mf : mg "MOST_LETTERS" = some (.int 8 tm)) (F : Fun K "thing_of" "Desk.thing_of" jG f fd) (DN : Def P w K mg base 1 "is_name" ["word"] zkg) : v9 P w K mg base (CXq P w) 2 f fd ["self", "kind", "word"] (zhg CD c) := by
 refine okQ F zyb (fun vs H Q E h => ?_) (fun cdv A outer s H vs Q E hr h => ?_)
 ·obtain ⟨_, _, _, _, _, rfl, _⟩ := h; rfl
 ·obtain ⟨a, d, ks, k, l, rfl, DA, al, ft, qe, q⟩ := h;have hu := zCg hr;refine ⟨_, zD (yL (PW.pt (hZ (zP wA (pv 1) zE (yA _)) (zbb (vF (wG (yC DN hr rfl (zA (pv 2) zC))))))) (zG (yO rfl h9 x9 (zA (wZ (yW zE (yW (vR (yJ (v := .int 8) rfl mf ⟨_, rfl⟩)) (yW zE j4)))) zC))) zQ)
   (zD (yL (PW.pt (hZ (zP wA (pv 1) zE (yA _)) (zbb (zDj (zqd hu (pv 2) (znk (pv 0) rfl)))))) (zG (yO rfl h9 x9 (zA zE zC))) zQ)
   (zD (yL (zP wA (pv 1) zE (yA _)) (zG (zV (zyx hu (znk (pv 0) rfl) (pv 2) (fun _ _ => rfl)))) zQ)
   (zG (zV (qK (zP wA (pv 1) zE (yA _)) (yG zgn rfl T.int zbx (zA (pv 2) zC)) (pv 2)))))), ?_⟩
  obtain ⟨dx, kvs, ha, hd, hk⟩ := DA.ex;refine ⟨_, rfl, rfl, _, rfl, ?_⟩;rw [zks];cases k with
  | new =>
   refine xK ⟨_, rfl, l, rfl, al, fun H1 s1 => ⟨_, rfl, ?_⟩⟩;cases e : zgg l with
   | false =>
    have e2 : wF ks .new l = none := by show (if zgg l = true then _ else _) = _; rw [e]; rfl
    exact xK ⟨_, rfl, by decide +kernel, 8, rfl, by decide +kernel, _, rfl, by decide +kernel, _, rfl, by decide +kernel, by decide +kernel, by show 1 <= 100; decide, qe e2 H1 s1⟩
   | true =>
    have e2 : wF ks .new l = some (.txt l) := by show (if zgg l = true then _ else _) = _; rw [e]; rfl
    refine yR ⟨_, rfl, rfl, _, rfl, ?_⟩;rw [wQ];refine yR (yR ⟨_, rfl, rfl, _, rfl, ?_⟩);rw [wQ];refine yR ⟨_, rfl, rfl, _, rfl, ?_⟩;rw [kK];exact yR ⟨_, rfl, q _ e2 _ H1 s1 ⟨rfl, al⟩⟩
  | kept =>
   refine yR (yR ⟨_, rfl, rfl, _, rfl, ?_⟩);rw [wQ];refine xK ⟨_, rfl, _, rfl, a, CD, dx, _, _, rfl, ha, D.cl, D.nW, zht d, d, _, rfl, DGet.k (k := Sum.inr (mkS l)) hd, _, rfl, ?_⟩;rcases zeo (w := l) hk with ⟨e1, e2⟩ | ⟨n, ps, v, e1, e2, W, e, em, ee⟩
   ·have e3 : wF ks .kept l = none := by show (match ks.lookup l with | some (n, ps) => _ | none => _) = _; rw [e1]
    rw [e2];exact xK ⟨by show 1 <= 100; decide, qe e3 H (Same.refl H)⟩
   ·have e3 : wF ks .kept l = some (.web n ps) := by show (match ks.lookup l with | some (n, ps) => _ | none => _) = _; rw [e1]
    rw [e2];refine yR ⟨_, rfl, rfl, _, rfl, ?_⟩;rw [wQ];refine xK ⟨_, rfl, a, CD, dx, _, _, rfl, ha, D.cl, D.nW, zht d, _, rfl, d, v, rfl, by rw [<- e2]; exact DGet.k (k := Sum.inr (mkS l)) hd, q _ e3 _ H (Same.refl H) ⟨W, ?_⟩⟩;have := DA.ok e em;rw [ee] at this;exact this
  | number =>
   refine yR (yR ⟨_, rfl, rfl, _, rfl, ?_⟩);rw [wQ];refine yR (yR ⟨_, rfl, rfl, _, rfl, ?_⟩);rw [wQ];refine yR ⟨_, rfl, rfl, _, rfl, ?_⟩;rw [kK];obtain ⟨z1, z2⟩ := zzj ft;exact xK ⟨_, rfl, _, _, rfl, z1, by rw [yP]; lia, q _ rfl _ H (Same.refl H) rfl⟩
  | counted =>
   refine yR (yR ⟨_, rfl, rfl, _, rfl, ?_⟩);rw [wQ];refine yR (yR ⟨_, rfl, rfl, _, rfl, ?_⟩);rw [wQ];refine yR ⟨_, rfl, rfl, _, rfl, ?_⟩;rw [kK];exact yR ⟨_, rfl, q _ rfl _ H (Same.refl H) ⟨rfl, al⟩⟩
  | text =>
   refine yR (yR ⟨_, rfl, rfl, _, rfl, ?_⟩);rw [wQ];refine yR (yR ⟨_, rfl, rfl, _, rfl, ?_⟩);rw [wQ];refine yR ⟨_, rfl, rfl, _, rfl, ?_⟩;rw [kK];exact yR ⟨_, rfl, q _ rfl _ H (Same.refl H) ⟨rfl, al⟩⟩
end
def zcp (d : Addr) (H H' : Hp) : Prop := ∀ b u, b ≠ d -> H b = some u -> H' b = some u
def zdb (l : List Nat) : List Nat := ((vE l).getD []).getD 1 []
def zCm (CD : Addr) (c : Fin 10 -> Addr) (a d : Addr) (ks : qY) (nm : List Nat) (H : Hp) (Q : VK) (E : XK) : Out -> Prop
 | .exc i => ∀ od H', Same H H' -> E (.ref (c i)) od H'
 | .str z => ∀ H', Same H H' -> Q (wI z) H'
 | .made n qs => ks.lookup nm = none /\ qH n qs /\ ks.length < 100 /\ ∀ H', zcp d H H' -> DeskAt CD H' a d (ks ++ [(nm, n, qs)]) -> Q (.str "ok") H'
 | .any => False
def kR (K : W.Frag) (CD : Addr) (c : Fin 10 -> Addr) : Sp := fun vs H Q E => ∃ (a d : Addr) (ks : qY) (x : V), vs = [.ref a, x] /\ DeskAt CD H a d ks /\
 ((Plain K H x /\ (∀ z, x ≠ .str z) /\ ∀ od H', Same H H' -> E (.ref (c 8)) od H') \/ ∃ l, x = wI l /\ Asc l /\ zCm CD c a d ks (zdb l) H Q E (wT ks l))
theorem WebAt.put {H : Hp} {d : Addr} {kvs kvs' : List (Key × V)} {v : V} {n : Int} {ps : List (Int × Int)} (W : WebAt H v n ps) (hd : H d = some (.dK kvs)) : WebAt (upd H d (.dK kvs')) v n ps := by
 obtain ⟨x, y, xs, h1, h2, h3, h4⟩ := W.ex;refine ⟨x, y, xs, h1, by rw [zS (kU h2 hd (by intro z; cases z))]; exact h2, by rw [zS (kU h3 hd (by intro z; cases z))]; exact h3, L2.Paired.mapP h4 fun a b ⟨t, e, ht⟩ => ⟨t, e, by rw [zS (kU ht hd (by intro z; cases z))]; exact ht⟩⟩
theorem zcb {ks : qY} : ∀ {kr : List vJ} {wr : List (List Nat)} {i : Nat} {k : vJ} {w : List Nat}, kr[i]? = some k -> wr[i]? = some w -> wF ks k w = none -> xZ ks kr wr = none
 | k' :: kr, w' :: wr, 0, k, w, h1, h2, e => by
  cases h1
  cases h2
  show (match wF ks k' w' with | none => none | some t => _) = _
  rw [e]
 | k' :: kr, w' :: wr, i + 1, k, w, h1, h2, e => by
  show (match wF ks k' w' with | none => none | some t => match xZ ks kr wr with | none => none | some ts => some (t :: ts)) = _
  rw [zcb (i := i) (by simpa using h1) (by simpa using h2) e];cases wF ks k' w' <;> rfl
 | [], _, _, _, _, h1, _, _ => by simp at h1
 | _ :: _, [], _, _, _, _, h2, _ => by simp at h2
theorem zca {ks : qY} : ∀ {kr : List vJ} {wr : List (List Nat)} {ts : List Th} {k : vJ} {w : List Nat} {t : Th}, kr.length = wr.length -> xZ ks kr wr = some ts -> wF ks k w = some t -> xZ ks (kr ++ [k]) (wr ++ [w]) = some (ts ++ [t])
 | [], [], ts, k, w, t, _, h, e => by
  cases h
  show (match wF ks k w with | none => none | some t => match xZ ks [] [] with | none => none | some ts => some (t :: ts)) = _
  rw [e];rfl
 | k' :: kr, w' :: wr, ts, k, w, t, hl, h, e => by
  replace h : (match wF ks k' w' with | none => none | some t => match xZ ks kr wr with | none => none | some ts => some (t :: ts)) = some ts := h
  show (match wF ks k' w' with | none => none | some t => match xZ ks (kr ++ [k]) (wr ++ [w]) with | none => none | some ts => some (t :: ts)) = _
  cases e1 : wF ks k' w' with
  | none => rw [e1] at h; cases h
  | some t1 =>
   cases e2 : xZ ks kr wr with
   | none => rw [e1, e2] at h; cases h
   | some ts1 =>
    rw [e1, e2] at h;cases h
    rw [zca (by simpa using hl) e2 e];rfl
 | [], _ :: _, _, _, _, _, hl, _, _ => by cases hl
 | _ :: _, [], _, _, _, _, hl, _, _ => by cases hl
theorem zdi {ks : qY} : ∀ {kr : List vJ} {wr : List (List Nat)} {ts : List Th}, xZ ks kr wr = some ts -> ts.length = min kr.length wr.length
 | [], wr, ts, h => by cases h; simp
 | _ :: _, [], ts, h => by cases h; simp
 | k :: kr, w :: wr, ts, h => by
  replace h : (match wF ks k w with | none => none | some t => match xZ ks kr wr with | none => none | some ts => some (t :: ts)) = some ts := h
  cases e1 : wF ks k w with
  | none => rw [e1] at h; cases h
  | some t1 =>
   cases e2 : xZ ks kr wr with
   | none => rw [e1, e2] at h; cases h
   | some ts1 =>
    rw [e1, e2] at h;cases h
    have := zdi e2;simp only [Q1];lia
theorem zjf {ks : qY} {kr : List vJ} {w : List Nat} {wr : List (List Nat)} {ts : List Th} (h : xZ ks (.new :: kr) (w :: wr) = some ts) : ∃ tr, ts = .txt w :: tr := by
 replace h : (match wF ks .new w with | none => none | some t => match xZ ks kr wr with | none => none | some ts => some (t :: ts)) = some ts := h
 cases e1 : wF ks .new w with
 | none => rw [e1] at h; cases h
 | some t1 =>
  have e : t1 = .txt w := by
   replace e1 : (if zgg w = true then some (Th.txt w) else none) = some t1 := e1
   split at e1
   ·cases e1; rfl
   ·cases e1
  cases e2 : xZ ks kr wr with
  | none => rw [e1, e2] at h; cases h
  | some ts1 =>
   rw [e1, e2, e] at h;cases h
   exact ⟨_, rfl⟩
theorem zlp {l : List Nat} {ws : List (List Nat)} (h : vE l = some ws) : ws = zZ l /\ (qP (hd ws)).isSome = true /\ ws.length = (xE ws).length + 1 /\ vM (xE ws) ws.tail = true := by
 unfold vE at h;split at h
 ·cases h
 ·rename_i ks e
  split at h
  ·rename_i e1
   split at h
   ·rename_i e2
    cases h
    exact ⟨rfl, by rw [zkx, e]; rfl, e1, e2⟩
   ·cases h
  ·cases h
theorem zwt : ∀ {ks : List vJ} {ws : List (List Nat)} {i : Nat} {k : vJ} {w : List Nat}, vM ks ws = true -> ks[i]? = some k -> ws[i]? = some w -> xX k w = true
 | k' :: kr, w' :: wr, 0, k, w, h, h1, h2 => by
  cases h1
  cases h2
  replace h : (xX k' w' && vM kr wr) = true := h
  exact (Bool.and_eq_true_iff.mp h).1
 | k' :: kr, w' :: wr, i + 1, k, w, h, h1, h2 => by
  replace h : (xX k' w' && vM kr wr) = true := h
  exact zwt (i := i) (Bool.and_eq_true_iff.mp h).2 (by simpa using h1) (by simpa using h2)
 | [], _, _, _, _, _, h1, _ => by simp at h1
 | _ :: _, [], _, _, _, _, _, h2 => by simp at h2
section
variable {P : Program} {w : World} {K : W.Frag} {mg : Str -> Option Value} {base : Heap} {c : Fin 10 -> Addr} {CD fa ca : Addr}
theorem ztt {X : Cx} {scope : Scope} {N' : List Str} {fp : List Addr} {C0 : Addr} {s : Shared} {H : Hp} {EX : XK} {C f : Addr} {m : Str} {k : Nat} {fd : FuncData} {ps : List Str} {sp : Sp} {o e : Expr} {es : List Expr} {ta : TE} {t : TA} {apos pos : Pos} {pl : Sem Bool}
  (ho : PE (yQ X scope N' fp C0 s H EX) o ta) (cl : Cls X.K C) (hm : znd X.K C m f) (F : v9 X.prog X.w X.K X.mg X.base (CXq X.prog X.w) k f fd ps sp) (hr : Room k X.A) (hb : Binds X.K fd ps []) (ha : PA (yQ X scope N' fp C0 s H EX) (e :: es) t)
  (hst : starEach (e :: es) (yQ X scope N' fp C0 s H EX).env = (false, eval e (yQ X scope N' fp C0 s H EX).env) :: starEach es (yQ X scope N' fp C0 s H EX).env := by rfl) (hpl : (backTo pos (starEach es (yQ X scope N' fp C0 s H EX).env)).any (·.1) = false := by rfl)
  (ht : eval (.Call (.Attribute o m apos) (e :: es) [] pos) (yQ X scope N' fp C0 s H EX).env = (do
   let ov <- eval o (yQ X scope N' fp C0 s H EX).env
   standAt apos.atName
   let (f, first) <- holding [ov] (getMethod ov m pl)
   callWith pos f first (backTo pos (starEach (e :: es) (yQ X scope N' fp C0 s H EX).env)) (backToKw pos (keywordEach [] (yQ X scope N' fp C0 s H EX).env))) := by rfl) :
  PE (yQ X scope N' fp C0 s H EX) (.Call (.Attribute o m apos) (e :: es) [] pos) (zch C m sp [] EX ta t) := jZ (X := yQ X scope N' fp C0 s H EX) (pl := pl) ho cl hm F hr hb .nil zBx ha hst hpl ht
theorem scSay : zR ["self", "row", "words", "form", "things"] ["self", "row"] (zH zkh) := ⟨rfl, rfl, rfl, by decide +kernel, rfl, by decide +kernel, by decide +kernel⟩
theorem zwo : (["kind", "word", "self"] : List Str).Nodup := by decide +kernel
theorem zDt {f : Addr} {fd : FuncData} (T : Txt K mg) (D : DC K mg CD) (F : Fun K "say" "Desk.say" zkh f fd) {fT : Addr} {fdT : FuncData} (mT : znd K CD "thing_of" fT) (OT : v9 P w K mg base (CXq P w) 2 fT fdT ["self", "kind", "word"] (zhg CD c)) (bT : Binds K fdT ["self", "kind", "word"] [])
  (DW : y9 P w K mg base 3 "words_of" ["row"] (znz K (c 8))) (DF : Def P w K mg base 1 "form_of" ["words"] (zni K)) (DT : y9 P w K mg base 4 "told_by" ["first", "things"] (zkb c)) (DM : y9 P w K mg base 6 "made_by" ["first", "things"] (zke c)) :
  v9 P w K mg base (CXq P w) 7 f fd ["self", "row"] (kR K CD c) := by
 refine okQ F scSay (fun vs H Q E h => ?_) (fun cdv A outer s H vs Q E hr h => ?_)
 ·obtain ⟨_, _, _, _, rfl, _⟩ := h; rfl
 ·obtain ⟨a, d, ks, x, rfl, DA, alt⟩ := h;have hr1 : Room 1 _ := hr.mono (by decide);have hr2 : Room 2 _ := hr.mono (by decide);have hr3 : Room 3 _ := hr.mono (by decide);have hr4 : Room 4 _ := hr.mono (by decide);have hu := zCg hr;refine ⟨_, zD (zU (i := 2) scSay.nd rfl (Or.inl rfl) (yB DW hr3 rfl (zA (pv 1) zC)))
   (zD (zU (i := 3) scSay.nd rfl (Or.inl rfl) (yC DF hr1 rfl (zA (pv 2) zC)))
   (zD (zcc (i := 4) scSay.nd rfl (Or.inl rfl) (N' := ["kind", "word", "self"]) (fr := [none, none, some 0]) (yH (by rfl)) (zhl K .t .l rfl T.zip (zA (pv 3) (zA (wP (wX K) (pv 2) (wJ zF) qF) zC)))
    (g := zws K 2 (zcl (xH 0) (zcl (xH 1) zzu))) (fun _ _ _ _ => jX K 2 rfl (xV (yE (i := 0) zwo rfl (Or.inl rfl) (Or.inr rfl)) (xV (yE (i := 1) zwo rfl (Or.inl rfl) (Or.inr rfl)) jW))) (fun _ _ _ _ => yX)
    (fun _ _ _ _ => ztt (pv 2) D.cl mT OT hr2 bT (zA (pv 0) (zA (pv 1) zC))))
   (zD (yL (zP j6 (zT (zY K) (pv 3) zF (fun _ _ => rfl)) zE (yA _)) (zG (zV (yB DT hr4 rfl (zA (zT (zO K) (pv 2) zF (fun _ _ => rfl)) (zA (pv 4) zC))))) zQ)
   (zD (zyt hu (znk (pv 0) rfl) (zT (zO K) (pv 4) zF (fun _ _ => rfl)) (yB DM hr rfl (zA (zT (zO K) (pv 2) zF (fun _ _ => rfl)) (zA (pv 4) zC))) rfl)
   (zG (zV zE)))))), ?_⟩
  rcases alt with ⟨px, nx, q⟩ | ⟨l, rfl, al, o⟩
  ·exact ⟨_, rfl, .inl ⟨x, rfl, px, nx, fun H' s' => q none H' s'⟩⟩
  ·refine ⟨_, rfl, .inr ⟨l, rfl, al, fun e H' s' => ?_, fun ws ew wa H1 s1 hwa => ?_⟩⟩
   ·have : wT ks l = .exc 8 := by unfold wT; rw [e]
    rw [this] at o;exact o none H' s'
   ·obtain ⟨ewc, fs, wl, fit⟩ := zlp ew;have wn : ws ≠ [] := by rw [ewc]; exact zjv l
    have w9 : ws.length <= 901 := by rw [ewc]; exact zfr al
    have was : ∀ w ∈ ws, Asc w := by rw [ewc]; exact zfs al
    refine ⟨_, rfl, wa, ws, rfl, hwa, wn, w9, fs, fun t H2 s2 ht => ?_⟩;have so : wT ks l = zBo ks ws := by unfold wT; rw [ew]
    rw [so] at o;unfold zBo at o;have nm1 : zdb l = ws.getD 1 [] := by unfold zdb; rw [ew]; rfl
    rw [nm1] at o;obtain ⟨fk, efk⟩ := Option.isSome_iff_exists.mp fs;obtain ⟨k0, kr, efw⟩ : ∃ k0 kr, xE ws = k0 :: kr := by
     have := zzx efk;unfold xE;rw [efk, Option.getD_some];cases fk with
     | nil => exact absurd rfl this
     | cons k0 kr => exact ⟨k0, _, rfl⟩
    refine ⟨_, rfl, _, rfl, _, rfl, wa, _, rfl, SqL.of (s2 _ _ hwa), fun cl hcl => ?_⟩;rw [zlg];have s3 := Same.new (o := HO.lst (ws.tail.map wI)) hcl;have hl3 : (upd H2 cl (HO.lst (ws.tail.map wI))) cl = some (.lst (ws.tail.map wI)) := zB;generalize upd H2 cl (HO.lst (ws.tail.map wI)) = H3 at s3 hl3 ⊢;have s13 := (s1.trans s2).trans s3;have ht3 := s3.tup ht;have hw3 := (s2.trans s3) _ _ hwa;have tl : (xE ws).length = ws.tail.length := by rw [List.length_tail]; lia
    refine ⟨t, cl, _, _, rfl, ht3, SqL.of hl3, zlh (k1 := .t) (k2 := .l) (a := t) (b := cl) (xs := (xE ws).map v6) (ys := ws.tail.map wI) (fun σ => ∃ u v, σ = [u, v, some (.ref a)]) (fun i zs H5 => Same H3 H5 /\ ∃ ts, xZ ks ((xE ws).take i) (ws.tail.take i) = some ts /\ Paired (ThAt H5) zs ts) ⟨_, _, rfl⟩ ⟨Same.refl _, [], rfl, .nil⟩ (by rw [Qj]; exact Jv (show _ <= 1000 by lia) (by decide)) (fun i ys H5 _ z => ⟨z.1.tup ht3, SqL.of (z.1 _ _ hl3)⟩) (by rw [Qj, Qj]; lia) ?_ ?_⟩
    ·rintro i x y p zs σ H5 N hx hy ⟨u, v, rfl⟩ ⟨sm, ts, ets, hz⟩ hp hN;rw [Q8] at hx hy;obtain ⟨kd, ekd, rfl⟩ := Option.map_eq_some_iff.mp hx;obtain ⟨wd, ewd, rfl⟩ := Option.map_eq_some_iff.mp hy;refine ⟨p, _, rfl, SqT.of zB, rfl, _, _, rfl, _, _, rfl, rfl, ?_⟩;dsimp only [xH, List.set];refine zaw ?_;have s6 := s13.trans (sm.trans (Same.new (o := HO.tup [v6 kd, wI wd]) hp));have DA6 := DA.same s6;obtain ⟨dx, kvs, ha, hd6, hk6⟩ := DA6.ex;have il : i < (xE ws).length := (Qn.mp ekd).1;refine ⟨_, rfl, a, dx, fW d, rfl, ha, zus d, _, rfl, _, rfl, a, d, ks, kd, wd, rfl, DA6, was wd (List.mem_of_mem_tail (Q6 ewd)), zwt fit ekd ewd, fun e H' s' => ?_, fun th et v' H' s' tv => ?_⟩
     ·rw [zcb ekd ewd e] at o;exact o none H' (s6.trans s')
     ·refine hN _ _ _ ⟨_, _, rfl⟩ ⟨(sm.trans (Same.new hp)).trans s', ts ++ [th], ?_, L2.Paired.snoc (L2.Paired.mapP hz fun _ _ q => (q.same (Same.new hp)).same s') tv⟩ (by simp);rw [zW ekd, zW ewd];exact zca (by rw [Jm, Jm, tl]) ets et
    ·rintro zs H5 ⟨sm, ts, ets, hz⟩ ln hln;rw [Qj, Jz, Jh (by lia)] at ets;rw [ets] at o;have s5 := Same.new (o := HO.lst zs) hln;have hl5 : (upd H5 ln (.lst zs)) ln = some (.lst zs) := zB;have hz5 := L2.Paired.mapP hz fun _ _ q => ThAt.same q s5;have s35 := sm.trans s5;generalize upd H5 ln (.lst zs) = H6 at s5 hl5 hz5 s35 ⊢;have s06 := s13.trans s35;have hw6 := s35 _ _ hw3;have ht6 := s35.tup ht3;dsimp only [List.set];obtain ⟨w0, wr, rfl⟩ : ∃ w0 wr, ws = w0 :: wr := by
      cases ws with
      | nil => exact absurd rfl wn
      | cons a b => exact ⟨a, b, rfl⟩
     have i0 : atI ((w0 :: wr).map wI) 0 = some (wI w0) := zJ (j := 0) rfl;have j0 : atI ((xE (w0 :: wr)).map v6) 0 = some (v6 k0) := by rw [efw]; exact zJ (j := 0) rfl
     refine ⟨_, rfl, t, _, _, _, rfl, rfl, ht6, j0, rfl, _, rfl, ?_⟩;rw [zks];by_cases hk0 : k0 = .new
     ·subst hk0;refine yR ?_
      replace o : zCm CD c a d ks ((w0 :: wr).getD 1 []) H Q E (zar w0 ts) := by
       have e : (if (xE (w0 :: wr)).head? = some .new then zar (hd (w0 :: wr)) ts else zaj (hd (w0 :: wr)) ts) = zar w0 ts := by rw [efw]; rfl
       rw [<- e];exact o
      refine ⟨_, rfl, wa, _, _, _, rfl, rfl, SqL.of hw6, i0, _, rfl, w0, ln, zs, ts, rfl, hl5, ?_, hz5, ?_⟩
      ·rw [Paired.length hz5, zdi ets];rw [List.length_tail, Q1] at tl;rw [Q1] at w9;lia
      ·cases em : zar w0 ts with
       | exc i =>
        rw [em] at o;exact fun od H' s' => o od H' (s06.trans s')
       | str z => exact absurd em (zmm _ _ _)
       | any =>
        rw [em] at o;exact o.elim
       | made n qs =>
        rw [em] at o;obtain ⟨lk, okq, few, q⟩ := o;intro wv H7 s7 W7;have DA7 := DA.same (s06.trans s7);obtain ⟨dx, kvs, ha7, hd7, hk7⟩ := DA7.ex;rw [efw] at ets tl;cases wr with
        | nil => simp at tl
        | cons w1 wr =>
         have tk := zjf ets;obtain ⟨v0, zr, tr, rfl, rfl⟩ : ∃ v0 zr tr, zs = v0 :: zr /\ ts = .txt w1 :: tr := by
          obtain ⟨tr, rfl⟩ := tk;cases hz5 with
          | cons a b => exact ⟨_, _, _, rfl, rfl⟩
         have v0e : v0 = wI w1 := by
          cases hz5 with
          | cons a b => exact a.1
         subst v0e;rcases zeo (w := w1) hk7 with ⟨e1, e2⟩ | ⟨n', ps', v', e1, _⟩
         ·have kl : kvs.length < sizeLine := by rw [Paired.length hk7]; exact Jv DA.few (by decide)
          refine ⟨_, rfl, a, CD, dx, _, _, rfl, ha7, D.cl, D.nW, zht d, _, rfl, ln, _, _, _, rfl, rfl, SqL.of (s7 _ _ hl5), zJ (j := 0) rfl, d, _, rfl, DPut.k (k := Sum.inr (mkS w1)) hd7 kl, ?_⟩;rw [ztq _ e2];have nad : a ≠ d := kU ha7 hd7 (by intro z; cases z);refine q _ (fun b u hb e => ?_) ⟨⟨dx, _, by rw [zS nad]; exact ha7, zB, ?_⟩, fun e he => ?_, by rw [Ql]; exact few⟩
          ·rw [zS hb];exact (s06.trans s7) b u e
          ·exact L2.Paired.snoc (L2.Paired.mapP hk7 fun _ _ z => ⟨z.1, z.2.put hd7⟩) ⟨rfl, W7.put hd7⟩
          ·rcases Q5.mp he with z | z
           ·exact DA.ok e z
           ·rw [Q3.mp z];exact okq
         ·exfalso
          replace lk : ks.lookup w1 = none := lk
          rw [e1] at lk;cases lk
     ·rw [Qv hk0];refine xK ⟨_, rfl, wa, _, _, _, rfl, rfl, SqL.of hw6, i0, _, rfl, w0, ln, zs, ts, rfl, hl5, hz5, ?_⟩
      replace o : zCm CD c a d ks ((w0 :: wr).getD 1 []) H Q E (zaj w0 ts) := by
       have e : (if (xE (w0 :: wr)).head? = some .new then zar (hd (w0 :: wr)) ts else zaj (hd (w0 :: wr)) ts) = zaj w0 ts := by rw [efw, if_neg (by rw [List.head?_cons]; intro z; exact hk0 (Option.some.inj z))]; rfl
       rw [<- e];exact o
      cases em : zaj w0 ts with
      | exc i =>
       rw [em] at o;exact fun od H' s' => o od H' (s06.trans s')
      | str z =>
       rw [em] at o;exact fun H' s' => o H' (s06.trans s')
      | made n qs => exact absurd em (zje _ _ _ _)
      | any =>
       rw [em] at o;exact o.elim
end
end My
namespace My
open PySem L2 PySem.NumText
def nr1 : List Str := ["", "shows a", "show", "show a a", "show  a", "show a ", " show a", "Show a", "out b a", "out b a x"]
def nr2 : List Str := ["out b a 01", "out b a -0", "out b a +1", "out b a 1_0", "out b a 0 0", "draw b a 1.", "draw b"]
def nr3 : List Str := ["beside b a", "beside b a few few", "join b a 0 few", "join b a 0 few x", "join b a few 0 0"]
def nr4 : List Str := ["turn b a 0", "turn b a 0 x", "turn b a 0 1 0 x", "turn b a 0 1 ", "turn b a 0  1", "worth a 1"]
def nr5 : List Str := ["worth a 1 2 3", "worth a 1 -", "worth c 1 x", "same a", "same a few many", "count a"]
def nr6 : List Str := ["count a tree"]
def nr7 : List Str := ["count c Woods", "count a picks woods", "colours a", "colours a q", "flows a 2 2", "web", "web b"]
def nr8 : List Str := ["web  3:", "poly", "trees a b", "web a", "colours c --1", "text\ta", "show\ta"]
def nr9 : List Str := ["same a\tfew", "count a trees\n", "worth a 1 2\n", "out few a 0\n"]
def nm1 : List Str := ["show b", "show A", "show abcdefghi", "out B a 0", "out b c 0", "draw b1 a 0", "draw b c 77"]
def nm2 : List Str := ["beside B a few", "beside b a c", "beside b c few", "join b a 0 c 0", "join b c 77 a 77"]
def nm3 : List Str := ["turn B a 0 1", "turn b c 0 0", "web B 3:", "web abcdefghi x", "web a1 3", "poly b", "trees b"]
def nm4 : List Str := ["worth b 1 2", "same a b", "same b a", "count b trees", "colours b -1", "flows b 0"]
def nm5 : List Str := ["out a_ few 5", "show a\n", "poly a\n", "web b\n 3:", "same a few\n"]
def zff : List Str := ((((((((nr1 ++ nr2) ++ nr3) ++ nr4) ++ nr5) ++ nr6) ++ nr7) ++ nr8) ++ nr9)
def namedRows : List Str := ((((nm1 ++ nm2) ++ nm3) ++ nm4) ++ nm5)
def words16 : List Str := ["text", "web", "many", "tie", "such", "point", "apart", "number", "row", "name", "order", "places", "drawing", "joined", "plane", "else"]
def zmj : List (Int × Int) := [(0, 1), (1, 2), (2, 3), (3, 4), (4, 5), (5, 6), (6, 7), (7, 8)]
def zms : List (Int × Int) := [(0, 0), (0, 0), (0, 0), (0, 0), (0, 0)]
def zmf : List (Int × Int) := [(1, 8), (1, 2), (2, 3), (3, 4), (4, 5), (5, 6), (6, 7), (0, 7)]
def ks4 (n : Int) (ps : List (Int × Int)) : qY := [([97], n, ps), ([109, 97, 110, 121], 9, zmj), ([102, 101, 119], 1, []), ([102, 105, 118, 101], 1, zms)]
def ks5 (n : Int) (ps : List (Int × Int)) : qY := ks4 n ps ++ [(zfp, 1, [])]
def ks6 (n : Int) (ps : List (Int × Int)) : qY := ks5 n ps ++ [([111, 118, 101, 114], 9, zmf)]
theorem zzm : ∀ z ∈ zff, vE (cod z) = none := by decide +kernel
theorem zDv : ∀ z ∈ zff, Asc (cod z) := by unfold Asc; decide +kernel
theorem zqh : ∀ z ∈ namedRows, Asc (cod z) := by unfold Asc; decide +kernel
theorem zmh (n : Int) (ps : List (Int × Int)) : namedRows.map (fun z => wT (ks6 n ps) (cod z)) = namedRows.map fun _ => .exc 9 := by kernel_rfl
end My
namespace My
open PySem L2 PySem.NumText PyProof.Rows
def yS (n : Int) : List Nat := (Str.ofString (toString n)).cps.toList
theorem dec_str (n : Int) : (Str.ofString (toString n)) = mkS (yS n) := (qV _).symm
theorem zhv (m : Nat) : yS ((m : Nat) : Int) = (Nat.toDigits 10 m).map Char.toNat := PySem.W.KIN.signs_num m
theorem zeb {n : Int} (h : 0 <= n) : AllDigits (yS n) := by
 obtain ⟨m, rfl⟩ := Q0 h;intro c hc;rw [zhv] at hc;obtain ⟨ch, hch, e⟩ := Wy.mp hc;rw [<- e];exact digit_range (Nat.isDigit_of_mem_toDigits (by decide) (by decide) hch)
theorem zhw {n : Int} (h : 0 <= n) {k : Nat} (hk : 1 <= k) (hn : n < 10 ^ k) : (yS n).length <= k := by
 have := toString_length_le h hk hn;rw [dec_str, yP] at this;exact this
theorem zrc : ∀ m : Nat, 0 < m -> ∃ c r, (Nat.toDigits 10 m).map Char.toNat = c :: r /\ 49 <= c /\ c <= 57 := by
 intro m
 induction m using Nat.strongRecOn with
 | _ m ih =>
  intro hm;by_cases h : m < 10
  ·rw [Nat.toDigits_of_lt_base h];have : ∀ d : Nat, d < 10 -> 0 < d -> 49 <= (Nat.digitChar d).toNat /\ (Nat.digitChar d).toNat <= 57 := by decide
   exact ⟨_, [], rfl, this m h hm⟩
  ·have hm' : m % 10 < 10 := Nat.mod_lt m (by decide);have t : Nat.toDigits 10 (m / 10) ++ Nat.toDigits 10 (m % 10) = Nat.toDigits 10 (10 * (m / 10) + m % 10) := Nat.toDigits_append_toDigits (by decide) (by lia) hm';rw [Nat.div_add_mod] at t;obtain ⟨c, r, e, hc⟩ := ih (m / 10) (by lia) (by lia);rw [<- t, Qp, e];exact ⟨c, _, rfl, hc⟩
theorem zlf {n : Int} (h : 0 < n) : ∃ c r, yS n = c :: r /\ 49 <= c /\ c <= 57 := by
 obtain ⟨m, rfl⟩ := Q0 (Int.le_of_lt h);rw [zhv];exact zrc m (by lia)
end My
namespace My
open PySem L2 PySem.NumText
theorem zpg {n : Int} (h : 0 <= n) : ((digitsVal (yS n) : Nat) : Int) = n := by
 obtain ⟨m, rfl⟩ := Q0 h;rw [zhv, PySem.W.KIN.val_back]
theorem zvs : ∀ (w : List Nat) (a : Nat), (∀ c ∈ w, c <= 57) -> w.foldl (fun acc c => acc * 10 + (c - 48)) a < (a + 1) * 10 ^ w.length
 | [], a, _ => by simp
 | c :: w, a, h => by
  have h1 := h c Qg;have ih := zvs w (a * 10 + (c - 48)) fun x hx => h x (Qk _ hx);rw [List.foldl_cons, Q1, Nat.pow_succ];refine Q2 ih ?_;have : a * 10 + (c - 48) + 1 <= (a + 1) * 10 := by lia
  refine Qc (Nat.mul_le_mul_right _ this) ?_;rw [Nat.mul_assoc, Nat.mul_comm 10 (10 ^ w.length)];exact Qx _
theorem zux {n : Int} (h : 10 ^ 60 <= n) : 60 < (yS n).length := by
 have p : (0 : Int) < 10 ^ 60 := by decide
 have n0 : 0 <= n := by lia
 by_cases c : (yS n).length <= 60
 ·exfalso;have v := zvs (yS n) 0 fun x hx => (zeb n0 x hx).2;have e := zpg n0
  replace v : digitsVal (yS n) < (0 + 1) * 10 ^ (yS n).length := v
  have : (10 : Nat) ^ (yS n).length <= 10 ^ 60 := Nat.pow_le_pow_right (by decide) c;have k : ((10 ^ 60 : Nat) : Int) = 10 ^ 60 := by decide
  lia
 ·lia
theorem zAd {n : Int} (h : 0 <= n) : (yS n).all xN = true := by
 rw [Jy];intro c hc;have := zeb h c hc;unfold xN;simp [this.1, this.2]
theorem zcx {n : Int} (h : 0 <= n) {x : Nat} (hx : x < 48) : x ∉ yS n := fun z => by
 have := zeb h x z;lia
theorem gI {n : Int} (h : 0 < n) (h2 : n < 10 ^ 60) : xL (yS n) = true /\ xL (45 :: yS n) = true /\ zda (yS n) = n /\ zda (45 :: yS n) = -n := by
 obtain ⟨c, r, e, c1, c2⟩ := zlf h;have l := zhw (Int.le_of_lt h) (k := 60) (by decide) h2;have f := zAd (Int.le_of_lt h);have v := zpg (Int.le_of_lt h);have hh : (yS n).head? = some c := by rw [e]; rfl
 have l1 : 1 <= (yS n).length := by rw [e, Q1]; lia
 have g1 : yT (yS n) = yS n := by
  unfold yT;rw [if_neg (by rw [hh]; intro z; have := Option.some.inj z; lia)]
 have g2 : yT (45 :: yS n) = yS n := by
  unfold yT;rw [if_pos (by rfl)];rfl
 have h48 : decide ((yS n).head? = some 48) = false := Qv (by rw [hh]; intro z; have := Option.some.inj z; lia);refine ⟨?_, ?_, ?_, ?_⟩
 ·unfold xL;rw [g1, f, Qb l1, Qb l, h48];rfl
 ·unfold xL;rw [g2, f, Qb l1, Qb l, h48];rfl
 ·unfold zda;rw [if_neg (by rw [hh]; intro z; have := Option.some.inj z; lia)];exact v
 ·unfold zda;rw [if_pos (by rfl)];show -((digitsVal (yS n) : Nat) : Int) = -n;rw [v]
theorem zud {n : Int} (h : 10 ^ 60 <= n) : xL (yS n) = false /\ xL (45 :: yS n) = false := by
 have p : (0 : Int) < 10 ^ 60 := by decide
 have l := zux h;obtain ⟨c, r, e, c1, c2⟩ := zlf (show 0 < n by lia);have hh : (yS n).head? = some c := by rw [e]; rfl
 have g1 : yT (yS n) = yS n := by
  unfold yT;rw [if_neg (by rw [hh]; intro z; have := Option.some.inj z; lia)]
 have g2 : yT (45 :: yS n) = yS n := by
  unfold yT;rw [if_pos (by rfl)];rfl
 have e60 : decide ((yS n).length <= 60) = false := Qv (by lia);constructor
 ·unfold xL;rw [g1, e60];simp
 ·unfold xL;rw [g2, e60];simp
theorem zdg {w : List Nat} {ws : List (List Nat)} (hb : ∀ p ∈ w :: ws, 32 ∉ p) (hw : w ≠ zbf) {ks : List vJ} (hf : qP w = some ks) :
  vE (v3 32 (w :: ws)) = if ws.length = (xE (w :: ws)).length then (if vM (xE (w :: ws)) ws = true then some (w :: ws) else none) else none := by
 have e : zL 32 [] (v3 32 (w :: ws)) = w :: ws := kE (by simp) hb;have ec : zZ (v3 32 (w :: ws)) = w :: ws := by
  unfold zZ;rw [e, if_neg (show ¬ hd (w :: ws) = zbf from hw)]
 unfold vE;rw [e, ec];show (match qP w with | none => none | some _ => if (w :: ws).length = (xE (w :: ws)).length + 1 then (if vM (xE (w :: ws)) ws = true then some (w :: ws) else none) else none) = _
 rw [hf];show (if (w :: ws).length = (xE (w :: ws)).length + 1 then (if vM (xE (w :: ws)) ws = true then some (w :: ws) else none) else none) = _;rw [Q1];by_cases h : ws.length = (xE (w :: ws)).length
 ·rw [if_pos h, if_pos (by rw [h])]
 ·rw [if_neg h, if_neg (by lia)]
theorem kP {w : List Nat} {ws : List (List Nat)} (hb : ∀ p ∈ w :: ws, 32 ∉ p) (hw : w ≠ zbf) {ks : List vJ} (hf : qP w = some ks) (hfit : vM (xE (w :: ws)) ws = false) : vE (v3 32 (w :: ws)) = none := by
 rw [zdg hb hw hf, hfit];split <;> rfl
section
variable {n F : Int} {ps : List (Int × Int)}
theorem nob {l : List (List Nat)} (h : ∀ p ∈ l, 32 ∉ p) {f : List Nat} (hf : 32 ∉ f) : ∀ p ∈ l ++ [f], 32 ∉ p := fun p hp => by
 rcases Q5.mp hp with z | z
 ·exact h p z
 ·rw [Q3.mp z];exact hf
theorem zno (h : 0 <= F) : 32 ∉ (45 :: yS F) := fun z => by
 rcases Qy.mp z with z | z
 ·cases z
 ·exact zcx h (by decide) z
def jH (F : Int) : List (List Nat) := [v3 32 [zfl, [98], [97], yS F], v3 32 [zjb, [97], 45 :: yS F, [49]], v3 32 [xQ, [97], yS F], v3 32 [qR, [98], [97], [48], [49], yS F]]
theorem kX (h : 10 ^ 60 <= F) : ∀ l ∈ jH F, vE l = none := by
 have p : (0 : Int) < 10 ^ 60 := by decide
 have F0 : 0 <= F := by lia
 obtain ⟨n1, n2⟩ := zud h;have d := zcx F0 (x := 32) (by decide);have d2 := zno F0;intro l hl;unfold jH at hl;rcases Qy.mp hl with rfl | hl
 ·refine kP (w := zfl) (ws := [[98], [97], yS F]) (ks := [.new, .kept, .number]) (nob (l := [zfl, [98], [97]]) (by decide) d) (by decide) (by decide) ?_;show (xX .new [98] && (xX .kept [97] && (xL (yS F) && true))) = false;rw [n1];rfl
 rcases Qy.mp hl with rfl | hl
 ·refine kP (w := zjb) (ws := [[97], 45 :: yS F, [49]]) (ks := [.kept, .number, .number]) ?_ (by decide) (by decide) ?_
  ·intro p hp;simp only [Qy, Ju, or_false] at hp;rcases hp with rfl | rfl | rfl | rfl
   ·decide
   ·decide
   ·exact d2
   ·decide
  ·show (xX .kept [97] && (xL (45 :: yS F) && (xL [49] && true))) = false;rw [n2];rfl
 rcases Qy.mp hl with rfl | hl
 ·refine kP (w := xQ) (ws := [[97], yS F]) (ks := [.kept, .number]) (nob (l := [xQ, [97]]) (by decide) d) (by decide) (by decide) ?_;show (xX .kept [97] && (xL (yS F) && true)) = false;rw [n1];rfl
 ·have e := Q3.mp hl;subst e;refine kP (w := qR) (ws := [[98], [97], [48], [49], yS F]) (ks := [.new, .kept, .number, .number]) (nob (l := [qR, [98], [97], [48], [49]]) (by decide) d) (by decide) (by decide) ?_;show (xX .new [98] && (xX .kept [97] && (xL [48] && (xL [49] && (xL (yS F) && true))))) = false;rw [n1];rfl
theorem qJ {ks : qY} {w : List Nat} {ws : List (List Nat)} (hb : ∀ p ∈ w :: ws, 32 ∉ p) (hw : w ≠ zbf) {kk : List vJ} (hf : qP w = some kk) (hl : ws.length = (xE (w :: ws)).length) (hfit : vM (xE (w :: ws)) ws = true) : wT ks (v3 32 (w :: ws)) = zBo ks (w :: ws) := by
 unfold wT;rw [zdg hb hw hf, if_pos hl, if_pos hfit]
theorem zyg (F5 : 5 <= F) (F6 : F < 10 ^ 60) (l5 : ps.length <= 5) : wT (ks6 n ps) (v3 32 [zfl, [98], [97], yS F]) = .exc 4 := by
 obtain ⟨n1, n2, n3, n4⟩ := gI (show 0 < F by lia) F6;rw [qJ (w := zfl) (ws := [[98], [97], yS F]) (kk := [.new, .kept, .number]) (nob (l := [zfl, [98], [97]]) (by decide) (zcx (by lia) (by decide))) (by decide) (by decide) rfl (by
  show (xX .new [98] && (xX .kept [97] && (xL (yS F) && true))) = true;rw [n1];rfl)]
 show (if inR (zda (yS F)) ps.length = true then Out.any else .exc 4) = .exc 4;rw [n3, if_neg (by rw [inR_iff]; lia)]
theorem ztj (F5 : 5 <= F) (F6 : F < 10 ^ 60) : wT (ks6 n ps) (v3 32 [zcm, [98], [97], 45 :: yS F]) = .exc 4 := by
 obtain ⟨n1, n2, n3, n4⟩ := gI (show 0 < F by lia) F6;rw [qJ (w := zcm) (ws := [[98], [97], 45 :: yS F]) (kk := [.new, .kept, .number]) (nob (l := [zcm, [98], [97]]) (by decide) (zno (by lia))) (by decide) (by decide) rfl (by
  show (xX .new [98] && (xX .kept [97] && (xL (45 :: yS F) && true))) = true;rw [n2];rfl)]
 show (if inR (zda (45 :: yS F)) ps.length = true then Out.any else .exc 4) = .exc 4;rw [n4, if_neg (by rw [inR_iff]; lia)]
theorem zqa (F5 : 5 <= F) (F6 : F < 10 ^ 60) (l5 : n <= 5) : wT (ks6 n ps) (v3 32 [gY, [98], [97], yS F, [102, 101, 119], [48]]) = .exc 5 := by
 obtain ⟨n1, n2, n3, n4⟩ := gI (show 0 < F by lia) F6;have d := zcx (show 0 <= F by lia) (x := 32) (by decide);rw [qJ (w := gY) (ws := [[98], [97], yS F, [102, 101, 119], [48]]) (kk := [.new, .kept, .number, .kept, .number]) (by
   intro p hp;simp only [Qy, Ju, or_false] at hp;rcases hp with rfl | rfl | rfl | rfl | rfl | rfl
   ·decide
   ·decide
   ·decide
   ·exact d
   ·decide
   ·decide) (by decide) (by decide) rfl (by
  show (xX .new [98] && (xX .kept [97] && (xL (yS F) && (xX .kept [102, 101, 119] && (xL [48] && true))))) = true;rw [n1];rfl)]
 show (if (inR (zda (yS F)) n && inR (zda [48]) 1) = true then (if 9 < n + 1 - 1 \/ 8 < ps.length + 0 then Out.exc 2 else .any) else .exc 5) = .exc 5;rw [n3, if_neg (by rw [Qm, inR_iff]; lia)]
theorem zpz (F5 : 5 <= F) (F6 : F < 10 ^ 60) : wT (ks6 n ps) (v3 32 [gY, [98], [109, 97, 110, 121], [57], [102, 101, 119], yS F]) = .exc 5 := by
 obtain ⟨n1, n2, n3, n4⟩ := gI (show 0 < F by lia) F6;have d := zcx (show 0 <= F by lia) (x := 32) (by decide);rw [qJ (w := gY) (ws := [[98], [109, 97, 110, 121], [57], [102, 101, 119], yS F]) (kk := [.new, .kept, .number, .kept, .number]) (nob (l := [gY, [98], [109, 97, 110, 121], [57], [102, 101, 119]]) (by decide) d) (by decide) (by decide) rfl (by
  show (xX .new [98] && (xX .kept [109, 97, 110, 121] && (xL [57] && (xX .kept [102, 101, 119] && (xL (yS F) && true))))) = true;rw [n1];rfl)]
 rfl
theorem zpx (n1 : 1 <= n) : wT (ks6 n ps) (cod "turn b a 0 0") = .exc 5 := by
 have e : cod "turn b a 0 0" = v3 32 [qR, [98], [97], [48], [48]] := by decide +kernel
 rw [e, qJ (w := qR) (ws := [[98], [97], [48], [48]]) (kk := [.new, .kept, .number, .number]) (by decide) (by decide) (by decide) rfl rfl];show (if jT ps.length [] = true then (if (inR 0 n && inR 0 n && !decide ((0 : Int) = 0)) = true then (match zfn n 0 0 ps [] with | some _ => Out.exc 6 | none => .made n (zib n 0 0 ps [])) else .exc 5) else .exc 4) = .exc 5
 rw [if_pos (show jT ps.length [] = true from rfl), if_neg (by simp)]
theorem zpw (F5 : 5 <= F) (F6 : F < 10 ^ 60) (l5 : ps.length <= 5) : wT (ks6 n ps) (v3 32 [qR, [98], [97], [48], yS F, yS F]) = .exc 4 := by
 obtain ⟨n1, n2, n3, n4⟩ := gI (show 0 < F by lia) F6;have d := zcx (show 0 <= F by lia) (x := 32) (by decide);rw [qJ (w := qR) (ws := [[98], [97], [48], yS F, yS F]) (kk := [.new, .kept, .number, .number]) (nob (l := [qR, [98], [97], [48], yS F]) (nob (l := [qR, [98], [97], [48]]) (by decide) d) d) (by decide) (by decide) rfl (by
  show (xX .new [98] && (xX .kept [97] && (xL [48] && (xL (yS F) && (xL (yS F) && true))))) = true;rw [n1];rfl)]
 show zls n ps (zda [48]) (zda (yS F)) [zda (yS F)] = .exc 4;unfold zls;rw [n3, if_neg (by rw [goodP_iff]; intro z; have := z.1 F Qg; lia)]
theorem ztk (F5 : 5 <= F) (F6 : F < 10 ^ 60) : wT (ks6 n ps) (v3 32 [xQ, [97], 45 :: yS F]) = .exc 7 := by
 obtain ⟨n1, n2, n3, n4⟩ := gI (show 0 < F by lia) F6;rw [qJ (w := xQ) (ws := [[97], 45 :: yS F]) (kk := [.kept, .number]) (nob (l := [xQ, [97]]) (by decide) (zno (by lia))) (by decide) (by decide) rfl (by
  show (xX .kept [97] && (xL (45 :: yS F) && true)) = true;rw [n2];rfl)]
 show (if zda (45 :: yS F) < 0 then Out.exc 7 else .any) = .exc 7;rw [n4, if_pos (by lia)]
end
end My
namespace My
open PySem L2
theorem zhz {l : List Str} {i : Int} (h0 : 0 <= i) (hl : i < l.length) : ∃ z ∈ l, atI (l.map V.str) i = some (.str z) := by
 obtain ⟨j, rfl⟩ := Q0 h0;have hj : j < l.length := by lia
 refine ⟨l[j], List.getElem_mem hj, zJ (j := j) ?_⟩;rw [Q8, List.getElem?_eq_getElem hj];rfl
theorem zI {n : Nat} (h : n <= 100) : n < sizeLine := Jv h (by decide)
def zxf (l : List Str) : TA := fun _ H Q => Q (l.map V.str) H
theorem pas {X : Cx} {es : List Expr} {t : TA} (l : List Str) (h : PA X es t) (e : t = zxf l := by rfl) : PA X es (zxf l) := e ▸ h
def zid (l : List Str) : Sp := fun vs H Q _ => ∃ cc : Int, vs = [.int cc] /\ ∀ z ∈ l, ∀ H', Same H H' -> Q (.str z) H'
section
variable {P : Program} {w : World} {K : W.Frag} {mg : Str -> Option Value} {base : Heap}
seal PSs PS PE PI PA PT PG
theorem scNoRow : zR ["_law_cell", "_law_some"] ["_law_cell"] (zH zik) := ⟨rfl, rfl, rfl, by decide +kernel, rfl, by decide +kernel, by decide +kernel⟩
theorem zEv (S : Src K mg "_law_no_row" zik ["_law_cell"]) : Def P w K mg base 1 "_law_no_row" ["_law_cell"] (zid zff) := by
 refine S.def scNoRow (fun vs H Q E h => ?_) (fun f cdv A outer s H vs Q E hr h => ?_)
 ·obtain ⟨_, rfl, _⟩ := h; rfl
 ·obtain ⟨cc, rfl, q⟩ := h;refine ⟨_, zD (zU (i := 1) scNoRow.nd rfl (Or.inl rfl) (yF (pas nr1 (zA zE (zA zE (zA zE (zA zE (zA zE (zA zE (zA zE (zA zE (zA zE (zA zE zC)))))))))))))
   (zD (zU (i := 1) scNoRow.nd rfl (Or.inl rfl) (zN yZ (pv 1) (yF (pas nr2 (zA zE (zA zE (zA zE (zA zE (zA zE (zA zE (zA zE zC)))))))))))
   (zD (zU (i := 1) scNoRow.nd rfl (Or.inl rfl) (zN yZ (pv 1) (yF (pas nr3 (zA zE (zA zE (zA zE (zA zE (zA zE zC)))))))))
   (zD (zU (i := 1) scNoRow.nd rfl (Or.inl rfl) (zN yZ (pv 1) (yF (pas nr4 (zA zE (zA zE (zA zE (zA zE (zA zE (zA zE zC))))))))))
   (zD (zU (i := 1) scNoRow.nd rfl (Or.inl rfl) (zN yZ (pv 1) (yF (pas nr5 (zA zE (zA zE (zA zE (zA zE (zA zE (zA zE zC))))))))))
   (zD (xI (kS PySem.F.plainAttrs_list PySem.F.slot_list_append PySem.F.type_list_append kW (pv 1) (zA zE zC)))
   (zD (zU (i := 1) scNoRow.nd rfl (Or.inl rfl) (zN yZ (pv 1) (yF (pas nr7 (zA zE (zA zE (zA zE (zA zE (zA zE (zA zE (zA zE zC)))))))))))
   (zD (zU (i := 1) scNoRow.nd rfl (Or.inl rfl) (zN yZ (pv 1) (yF (pas nr8 (zA zE (zA zE (zA zE (zA zE (zA zE (zA zE (zA zE zC)))))))))))
   (zD (zU (i := 1) scNoRow.nd rfl (Or.inl rfl) (zN yZ (pv 1) (yF (pas nr9 (zA zE (zA zE (zA zE (zA zE zC))))))))
   (zG (zV (zT (zO K) (pv 1) (zN w5 (pv 0) zF) (fun _ _ => rfl)))))))))))), ?_⟩
  refine ⟨by show 10 <= sizeLine; decide, fun p1 h1 => ?_⟩;have s1 := Same.new (o := HO.lst (nr1.map V.str)) h1;have l1 : (upd H p1 (HO.lst (nr1.map V.str))) p1 = some (.lst (nr1.map V.str)) := zB;generalize upd H p1 (HO.lst (nr1.map V.str)) = H1 at s1 l1 ⊢;refine ⟨_, rfl, by show 7 <= sizeLine; decide, fun q2 g2 => ?_⟩;have t2 := Same.new (o := HO.lst (nr2.map V.str)) g2;have m2 : (upd H1 q2 (HO.lst (nr2.map V.str))) q2 = some (.lst (nr2.map V.str)) := zB;refine ⟨p1, q2, nr1.map V.str, nr2.map V.str, rfl, rfl, t2 _ _ l1, m2, by rw [Qj, Qj]; exact Qu (zI (by decide)), fun p2 h2 => ?_⟩;have s2x := s1.trans t2;have s2 := s2x.trans (Same.new (o := HO.lst (nr1.map V.str ++ nr2.map V.str)) h2);have l2 : (upd (upd H1 q2 (HO.lst (nr2.map V.str))) p2 (HO.lst (nr1.map V.str ++ nr2.map V.str))) p2 = some (.lst ((nr1 ++ nr2).map V.str)) := by rw [zB, <- Qp]
  generalize upd (upd H1 q2 (HO.lst (nr2.map V.str))) p2 (HO.lst (nr1.map V.str ++ nr2.map V.str)) = H2 at s2 l2 ⊢;refine ⟨_, rfl, by show 5 <= sizeLine; decide, fun q3 g3 => ?_⟩;have t3 := Same.new (o := HO.lst (nr3.map V.str)) g3;have m3 : (upd H2 q3 (HO.lst (nr3.map V.str))) q3 = some (.lst (nr3.map V.str)) := zB;refine ⟨p2, q3, (nr1 ++ nr2).map V.str, nr3.map V.str, rfl, rfl, t3 _ _ l2, m3, by rw [Qj, Qj]; exact Qu (zI (by decide)), fun p3 h3 => ?_⟩;have s3x := s2.trans t3;have s3 := s3x.trans (Same.new (o := HO.lst ((nr1 ++ nr2).map V.str ++ nr3.map V.str)) h3);have l3 : (upd (upd H2 q3 (HO.lst (nr3.map V.str))) p3 (HO.lst ((nr1 ++ nr2).map V.str ++ nr3.map V.str))) p3 = some (.lst (((nr1 ++ nr2) ++ nr3).map V.str)) := by rw [zB, <- Qp]
  generalize upd (upd H2 q3 (HO.lst (nr3.map V.str))) p3 (HO.lst ((nr1 ++ nr2).map V.str ++ nr3.map V.str)) = H3 at s3 l3 ⊢;refine ⟨_, rfl, by show 6 <= sizeLine; decide, fun q4 g4 => ?_⟩;have t4 := Same.new (o := HO.lst (nr4.map V.str)) g4;have m4 : (upd H3 q4 (HO.lst (nr4.map V.str))) q4 = some (.lst (nr4.map V.str)) := zB;refine ⟨p3, q4, ((nr1 ++ nr2) ++ nr3).map V.str, nr4.map V.str, rfl, rfl, t4 _ _ l3, m4, by rw [Qj, Qj]; exact Qu (zI (by decide)), fun p4 h4 => ?_⟩;have s4x := s3.trans t4;have s4 := s4x.trans (Same.new (o := HO.lst (((nr1 ++ nr2) ++ nr3).map V.str ++ nr4.map V.str)) h4);have l4 : (upd (upd H3 q4 (HO.lst (nr4.map V.str))) p4 (HO.lst (((nr1 ++ nr2) ++ nr3).map V.str ++ nr4.map V.str))) p4 = some (.lst ((((nr1 ++ nr2) ++ nr3) ++ nr4).map V.str)) := by rw [zB, <- Qp]
  generalize upd (upd H3 q4 (HO.lst (nr4.map V.str))) p4 (HO.lst (((nr1 ++ nr2) ++ nr3).map V.str ++ nr4.map V.str)) = H4 at s4 l4 ⊢;refine ⟨_, rfl, by show 6 <= sizeLine; decide, fun q5 g5 => ?_⟩;have t5 := Same.new (o := HO.lst (nr5.map V.str)) g5;have m5 : (upd H4 q5 (HO.lst (nr5.map V.str))) q5 = some (.lst (nr5.map V.str)) := zB;refine ⟨p4, q5, (((nr1 ++ nr2) ++ nr3) ++ nr4).map V.str, nr5.map V.str, rfl, rfl, t5 _ _ l4, m5, by rw [Qj, Qj]; exact Qu (zI (by decide)), fun p5 h5 => ?_⟩;have s5x := s4.trans t5;have s5 := s5x.trans (Same.new (o := HO.lst ((((nr1 ++ nr2) ++ nr3) ++ nr4).map V.str ++ nr5.map V.str)) h5);have l5 : (upd (upd H4 q5 (HO.lst (nr5.map V.str))) p5 (HO.lst ((((nr1 ++ nr2) ++ nr3) ++ nr4).map V.str ++ nr5.map V.str))) p5 = some (.lst (((((nr1 ++ nr2) ++ nr3) ++ nr4) ++ nr5).map V.str)) := by rw [zB, <- Qp]
  generalize upd (upd H4 q5 (HO.lst (nr5.map V.str))) p5 (HO.lst ((((nr1 ++ nr2) ++ nr3) ++ nr4).map V.str ++ nr5.map V.str)) = H5 at s5 l5 ⊢;refine ⟨_, rfl, .inl ⟨rfl, _, SqL.of l5⟩, p5, _, _, rfl, rfl, l5, by rw [Qj]; exact zI (by decide), ?_⟩;have s6 : Same H (upd H5 p5 (HO.lst (((((nr1 ++ nr2) ++ nr3) ++ nr4) ++ nr5).map V.str ++ [V.str "count a tree"]))) := wO s5 (xP s5x h5);have l6 : (upd H5 p5 (HO.lst (((((nr1 ++ nr2) ++ nr3) ++ nr4) ++ nr5).map V.str ++ [V.str "count a tree"]))) p5 = some (.lst ((((((nr1 ++ nr2) ++ nr3) ++ nr4) ++ nr5) ++ nr6).map V.str)) := by rw [zB, Qp (l₁ := ((((nr1 ++ nr2) ++ nr3) ++ nr4) ++ nr5)) (l₂ := nr6)]; rfl
  generalize upd H5 p5 (HO.lst (((((nr1 ++ nr2) ++ nr3) ++ nr4) ++ nr5).map V.str ++ [V.str "count a tree"])) = H6 at s6 l6 ⊢;have pe_ : p5 = p5 := rfl;generalize hp6 : p5 = p6 at l6 ⊢;refine ⟨_, rfl, by show 7 <= sizeLine; decide, fun q7 g7 => ?_⟩;have t7 := Same.new (o := HO.lst (nr7.map V.str)) g7;have m7 : (upd H6 q7 (HO.lst (nr7.map V.str))) q7 = some (.lst (nr7.map V.str)) := zB;refine ⟨p6, q7, (((((nr1 ++ nr2) ++ nr3) ++ nr4) ++ nr5) ++ nr6).map V.str, nr7.map V.str, rfl, rfl, t7 _ _ l6, m7, by rw [Qj, Qj]; exact Qu (zI (by decide)), fun p7 h7 => ?_⟩;have s7x := s6.trans t7;have s7 := s7x.trans (Same.new (o := HO.lst ((((((nr1 ++ nr2) ++ nr3) ++ nr4) ++ nr5) ++ nr6).map V.str ++ nr7.map V.str)) h7);have l7 : (upd (upd H6 q7 (HO.lst (nr7.map V.str))) p7 (HO.lst ((((((nr1 ++ nr2) ++ nr3) ++ nr4) ++ nr5) ++ nr6).map V.str ++ nr7.map V.str))) p7 = some (.lst (((((((nr1 ++ nr2) ++ nr3) ++ nr4) ++ nr5) ++ nr6) ++ nr7).map V.str)) := by rw [zB, <- Qp]
  generalize upd (upd H6 q7 (HO.lst (nr7.map V.str))) p7 (HO.lst ((((((nr1 ++ nr2) ++ nr3) ++ nr4) ++ nr5) ++ nr6).map V.str ++ nr7.map V.str)) = H7 at s7 l7 ⊢;refine ⟨_, rfl, by show 7 <= sizeLine; decide, fun q8 g8 => ?_⟩;have t8 := Same.new (o := HO.lst (nr8.map V.str)) g8;have m8 : (upd H7 q8 (HO.lst (nr8.map V.str))) q8 = some (.lst (nr8.map V.str)) := zB;refine ⟨p7, q8, ((((((nr1 ++ nr2) ++ nr3) ++ nr4) ++ nr5) ++ nr6) ++ nr7).map V.str, nr8.map V.str, rfl, rfl, t8 _ _ l7, m8, by rw [Qj, Qj]; exact Qu (zI (by decide)), fun p8 h8 => ?_⟩;have s8x := s7.trans t8;have s8 := s8x.trans (Same.new (o := HO.lst (((((((nr1 ++ nr2) ++ nr3) ++ nr4) ++ nr5) ++ nr6) ++ nr7).map V.str ++ nr8.map V.str)) h8);have l8 : (upd (upd H7 q8 (HO.lst (nr8.map V.str))) p8 (HO.lst (((((((nr1 ++ nr2) ++ nr3) ++ nr4) ++ nr5) ++ nr6) ++ nr7).map V.str ++ nr8.map V.str))) p8 = some (.lst ((((((((nr1 ++ nr2) ++ nr3) ++ nr4) ++ nr5) ++ nr6) ++ nr7) ++ nr8).map V.str)) := by rw [zB, <- Qp]
  generalize upd (upd H7 q8 (HO.lst (nr8.map V.str))) p8 (HO.lst (((((((nr1 ++ nr2) ++ nr3) ++ nr4) ++ nr5) ++ nr6) ++ nr7).map V.str ++ nr8.map V.str)) = H8 at s8 l8 ⊢;refine ⟨_, rfl, by show 4 <= sizeLine; decide, fun q9 g9 => ?_⟩;have t9 := Same.new (o := HO.lst (nr9.map V.str)) g9;have m9 : (upd H8 q9 (HO.lst (nr9.map V.str))) q9 = some (.lst (nr9.map V.str)) := zB;refine ⟨p8, q9, (((((((nr1 ++ nr2) ++ nr3) ++ nr4) ++ nr5) ++ nr6) ++ nr7) ++ nr8).map V.str, nr9.map V.str, rfl, rfl, t9 _ _ l8, m9, by rw [Qj, Qj]; exact Qu (zI (by decide)), fun p9 h9 => ?_⟩;have s9x := s8.trans t9;have s9 := s9x.trans (Same.new (o := HO.lst ((((((((nr1 ++ nr2) ++ nr3) ++ nr4) ++ nr5) ++ nr6) ++ nr7) ++ nr8).map V.str ++ nr9.map V.str)) h9);have l9 : (upd (upd H8 q9 (HO.lst (nr9.map V.str))) p9 (HO.lst ((((((((nr1 ++ nr2) ++ nr3) ++ nr4) ++ nr5) ++ nr6) ++ nr7) ++ nr8).map V.str ++ nr9.map V.str))) p9 = some (.lst (((((((((nr1 ++ nr2) ++ nr3) ++ nr4) ++ nr5) ++ nr6) ++ nr7) ++ nr8) ++ nr9).map V.str)) := by rw [zB, <- Qp]
  generalize upd (upd H8 q9 (HO.lst (nr9.map V.str))) p9 (HO.lst ((((((((nr1 ++ nr2) ++ nr3) ++ nr4) ++ nr5) ++ nr6) ++ nr7) ++ nr8).map V.str ++ nr9.map V.str)) = H9 at s9 l9 ⊢;obtain ⟨z, hz, ez⟩ := zhz (l := ((((((((nr1 ++ nr2) ++ nr3) ++ nr4) ++ nr5) ++ nr6) ++ nr7) ++ nr8) ++ nr9)) (i := cc % 53) (Jk _ (by decide)) (Jj _ (by decide));exact ⟨_, rfl, _, rfl, cc, 53, rfl, rfl, by show (0 : Int) < 53; decide, p9, _, _, _, rfl, rfl, SqL.of l9, ez, q z hz H9 s9⟩
theorem scNamed : zR ["_law_cell", "_law_some"] ["_law_cell"] (zH zil) := ⟨rfl, rfl, rfl, by decide +kernel, rfl, by decide +kernel, by decide +kernel⟩
theorem zEw (S : Src K mg "_law_named" zil ["_law_cell"]) : Def P w K mg base 1 "_law_named" ["_law_cell"] (zid namedRows) := by
 refine S.def scNamed (fun vs H Q E h => ?_) (fun f cdv A outer s H vs Q E hr h => ?_)
 ·obtain ⟨_, rfl, _⟩ := h; rfl
 ·obtain ⟨cc, rfl, q⟩ := h;refine ⟨_, zD (zU (i := 1) scNamed.nd rfl (Or.inl rfl) (yF (pas nm1 (zA zE (zA zE (zA zE (zA zE (zA zE (zA zE (zA zE zC))))))))))
   (zD (zU (i := 1) scNamed.nd rfl (Or.inl rfl) (zN yZ (pv 1) (yF (pas nm2 (zA zE (zA zE (zA zE (zA zE (zA zE zC)))))))))
   (zD (zU (i := 1) scNamed.nd rfl (Or.inl rfl) (zN yZ (pv 1) (yF (pas nm3 (zA zE (zA zE (zA zE (zA zE (zA zE (zA zE (zA zE zC)))))))))))
   (zD (zU (i := 1) scNamed.nd rfl (Or.inl rfl) (zN yZ (pv 1) (yF (pas nm4 (zA zE (zA zE (zA zE (zA zE (zA zE (zA zE zC))))))))))
   (zD (zU (i := 1) scNamed.nd rfl (Or.inl rfl) (zN yZ (pv 1) (yF (pas nm5 (zA zE (zA zE (zA zE (zA zE (zA zE zC)))))))))
   (zG (zV (zT (zO K) (pv 1) (zN w5 (pv 0) zF) (fun _ _ => rfl)))))))), ?_⟩
  refine ⟨by show 7 <= sizeLine; decide, fun p1 h1 => ?_⟩;have s1 := Same.new (o := HO.lst (nm1.map V.str)) h1;have l1 : (upd H p1 (HO.lst (nm1.map V.str))) p1 = some (.lst (nm1.map V.str)) := zB;generalize upd H p1 (HO.lst (nm1.map V.str)) = H1 at s1 l1 ⊢;refine ⟨_, rfl, by show 5 <= sizeLine; decide, fun q2 g2 => ?_⟩;have t2 := Same.new (o := HO.lst (nm2.map V.str)) g2;have m2 : (upd H1 q2 (HO.lst (nm2.map V.str))) q2 = some (.lst (nm2.map V.str)) := zB;refine ⟨p1, q2, nm1.map V.str, nm2.map V.str, rfl, rfl, t2 _ _ l1, m2, by rw [Qj, Qj]; exact Qu (zI (by decide)), fun p2 h2 => ?_⟩;have s2x := s1.trans t2;have s2 := s2x.trans (Same.new (o := HO.lst (nm1.map V.str ++ nm2.map V.str)) h2);have l2 : (upd (upd H1 q2 (HO.lst (nm2.map V.str))) p2 (HO.lst (nm1.map V.str ++ nm2.map V.str))) p2 = some (.lst ((nm1 ++ nm2).map V.str)) := by rw [zB, <- Qp]
  generalize upd (upd H1 q2 (HO.lst (nm2.map V.str))) p2 (HO.lst (nm1.map V.str ++ nm2.map V.str)) = H2 at s2 l2 ⊢;refine ⟨_, rfl, by show 7 <= sizeLine; decide, fun q3 g3 => ?_⟩;have t3 := Same.new (o := HO.lst (nm3.map V.str)) g3;have m3 : (upd H2 q3 (HO.lst (nm3.map V.str))) q3 = some (.lst (nm3.map V.str)) := zB;refine ⟨p2, q3, (nm1 ++ nm2).map V.str, nm3.map V.str, rfl, rfl, t3 _ _ l2, m3, by rw [Qj, Qj]; exact Qu (zI (by decide)), fun p3 h3 => ?_⟩;have s3x := s2.trans t3;have s3 := s3x.trans (Same.new (o := HO.lst ((nm1 ++ nm2).map V.str ++ nm3.map V.str)) h3);have l3 : (upd (upd H2 q3 (HO.lst (nm3.map V.str))) p3 (HO.lst ((nm1 ++ nm2).map V.str ++ nm3.map V.str))) p3 = some (.lst (((nm1 ++ nm2) ++ nm3).map V.str)) := by rw [zB, <- Qp]
  generalize upd (upd H2 q3 (HO.lst (nm3.map V.str))) p3 (HO.lst ((nm1 ++ nm2).map V.str ++ nm3.map V.str)) = H3 at s3 l3 ⊢;refine ⟨_, rfl, by show 6 <= sizeLine; decide, fun q4 g4 => ?_⟩;have t4 := Same.new (o := HO.lst (nm4.map V.str)) g4;have m4 : (upd H3 q4 (HO.lst (nm4.map V.str))) q4 = some (.lst (nm4.map V.str)) := zB;refine ⟨p3, q4, ((nm1 ++ nm2) ++ nm3).map V.str, nm4.map V.str, rfl, rfl, t4 _ _ l3, m4, by rw [Qj, Qj]; exact Qu (zI (by decide)), fun p4 h4 => ?_⟩;have s4x := s3.trans t4;have s4 := s4x.trans (Same.new (o := HO.lst (((nm1 ++ nm2) ++ nm3).map V.str ++ nm4.map V.str)) h4);have l4 : (upd (upd H3 q4 (HO.lst (nm4.map V.str))) p4 (HO.lst (((nm1 ++ nm2) ++ nm3).map V.str ++ nm4.map V.str))) p4 = some (.lst ((((nm1 ++ nm2) ++ nm3) ++ nm4).map V.str)) := by rw [zB, <- Qp]
  generalize upd (upd H3 q4 (HO.lst (nm4.map V.str))) p4 (HO.lst (((nm1 ++ nm2) ++ nm3).map V.str ++ nm4.map V.str)) = H4 at s4 l4 ⊢;refine ⟨_, rfl, by show 5 <= sizeLine; decide, fun q5 g5 => ?_⟩;have t5 := Same.new (o := HO.lst (nm5.map V.str)) g5;have m5 : (upd H4 q5 (HO.lst (nm5.map V.str))) q5 = some (.lst (nm5.map V.str)) := zB;refine ⟨p4, q5, (((nm1 ++ nm2) ++ nm3) ++ nm4).map V.str, nm5.map V.str, rfl, rfl, t5 _ _ l4, m5, by rw [Qj, Qj]; exact Qu (zI (by decide)), fun p5 h5 => ?_⟩;have s5x := s4.trans t5;have s5 := s5x.trans (Same.new (o := HO.lst ((((nm1 ++ nm2) ++ nm3) ++ nm4).map V.str ++ nm5.map V.str)) h5);have l5 : (upd (upd H4 q5 (HO.lst (nm5.map V.str))) p5 (HO.lst ((((nm1 ++ nm2) ++ nm3) ++ nm4).map V.str ++ nm5.map V.str))) p5 = some (.lst (((((nm1 ++ nm2) ++ nm3) ++ nm4) ++ nm5).map V.str)) := by rw [zB, <- Qp]
  generalize upd (upd H4 q5 (HO.lst (nm5.map V.str))) p5 (HO.lst ((((nm1 ++ nm2) ++ nm3) ++ nm4).map V.str ++ nm5.map V.str)) = H5 at s5 l5 ⊢;obtain ⟨z, hz, ez⟩ := zhz (l := ((((nm1 ++ nm2) ++ nm3) ++ nm4) ++ nm5)) (i := cc % 30) (Jk _ (by decide)) (Jj _ (by decide));exact ⟨_, rfl, _, rfl, cc, 30, rfl, rfl, by show (0 : Int) < 30; decide, p5, _, _, _, rfl, rfl, SqL.of l5, ez, q z hz H5 s5⟩
end
end My
namespace My
open PySem L2 PySem.NumText
def hU (i : Fin 10) : Str := words16.getD i.val ""
structure zbh (w z : Str) : Prop where
 asc : Asc (cod z)
 ex : ∃ i : Fin 10, w = hU i /\ ∀ n ps, 1 <= n -> n <= 5 -> ps.length <= 5 -> wT (ks6 n ps) (cod z) = .exc i
def conc : List (Fin 10 × Str) := [(0, "web b "), (0, "web b 3"), (0, "web a 3:0-1"), (0, "web b 3:  0-1"), (0, "web b 0: 0"), (1, "web b 0: 0-0"), (1, "web a 10:"), (3, "web b 3: 0-3"), (2, ("web b 2:" : Str) ++ zyh " 0-1" 9), (2, ("web b 2:" : Str) ++ zyh " 0-5" 9), (3, "web a 2: 0-1 2-2 0-9"), (4, "out few few 0"), (4, "draw b few 0"), (2, "beside b many few"), (2, "beside b few many"), (2, "join b many 0 many 8"), (5, "join b many 0 few 1"), (4, "turn b many 0 0 1 2 1"), (6, "turn b many 0 1 1"), (7, "flows many 0"), (5, "turn a many 0 -1 0"), (2, "join b five 0 five 0"), (2, "beside a five five"), (0, "web b 3:\n"), (0, "web b 3: 0-1\n"), (0, "web b  3:"), (0, "web b 3: 0-1 ")]
theorem zvh (n : Int) (ps : List (Int × Int)) : conc.map (fun p => wT (ks6 n ps) (cod p.2)) = conc.map fun p => .exc p.1 := by kernel_rfl
theorem zvi : ∀ p ∈ conc, Asc (cod p.2) := by unfold Asc; decide +kernel
theorem znq {α β : Type} {f g : α -> β} : ∀ {l : List α}, l.map f = l.map g -> ∀ {i : Nat} {a : α}, l[i]? = some a -> f a = g a
 | _ :: _, h, 0, a, e => by cases e; exact (List.cons.inj h).1
 | _ :: r, h, i + 1, a, e => znq (l := r) (List.cons.inj h).2 (i := i) (by simpa using e)
 | [], _, _, _, e => by simp at e
theorem yU {i : Nat} {j : Fin 10} {z : Str} (h : conc[i]? = some (j, z)) : zbh (hU j) z := ⟨zvi _ (Q6 h), j, rfl, fun n ps _ _ _ => znq (zvh n ps) h⟩
theorem zGz {z : Str} (h : z ∈ zff) : zbh "row" z := ⟨zDv z h, 8, rfl, fun n ps _ _ _ => by unfold wT; rw [zzm z h]⟩
theorem zkq {z : Str} (h : z ∈ namedRows) : zbh "name" z := by
 obtain ⟨i, e⟩ := List.getElem?_of_mem h;exact ⟨zqh z h, 9, rfl, fun n ps _ _ _ => znq (zmh n ps) e⟩
section
variable {F : Int}
theorem yM (x y : Str) : cod (x ++ y) = cod x ++ cod y := zgt x y
theorem cod_num : cod (Str.ofString (toString F)) = yS F := rfl
theorem wU {x y : List Nat} {a b : Nat} (hx : (∀ c ∈ x, c < 128) /\ x.length <= a) (hy : (∀ c ∈ y, c < 128) /\ y.length <= b) : (∀ c ∈ x ++ y, c < 128) /\ (x ++ y).length <= a + b := ⟨fun c hc => (Q5.mp hc).elim (hx.1 c) (hy.1 c), by rw [Ql]; lia⟩
theorem vU (h : 0 <= F) (h2 : F < 10 ^ 70) : (∀ c ∈ yS F, c < 128) /\ (yS F).length <= 70 := ⟨fun c hc => by have := zeb h c hc; lia, zhw h (by decide) h2⟩
theorem vB {x : Str} (h : ((cod x).all fun c => decide (c < 128)) = true) (h2 : (cod x).length <= 30) : (∀ c ∈ cod x, c < 128) /\ (cod x).length <= 30 := ⟨fun c hc => Jr (Jy.mp h c hc), h2⟩
theorem zHq : cod ((("out b a " : Str)) ++ Str.ofString (toString F)) = v3 32 [zfl, [98], [97], yS F] := by
 rw [yM, cod_num, show cod "out b a " = [111, 117, 116, 32, 98, 32, 97, 32] by decide +kernel]
 first | rfl | (simp only [Q9]; rfl)
theorem zGp (F5 : 5 <= F) (F6 : F < 10 ^ 60) : zbh "such" ((("out b a " : Str)) ++ Str.ofString (toString F)) := by
 have F7 : F < 10 ^ 70 := Wv F6 (by decide +kernel);have F0 : 0 <= F := by
  have : (0 : Int) < 10 ^ 60 := by decide
  lia
 refine ⟨?_, 4, rfl, fun n ps n1 n5 p5 => ?_⟩
 ·have a := (wU (vB (x := "out b a ") (by decide +kernel) (by decide +kernel)) (vU (F := F) F0 F7));rw [cod_num.symm, <- yM] at a;exact ⟨a.1, Qc a.2 (by decide)⟩
 ·rw [zHq];exact zyg F5 F6 p5
theorem zEy : cod ((("draw b a -" : Str)) ++ Str.ofString (toString F)) = v3 32 [zcm, [98], [97], 45 :: yS F] := by
 rw [yM, cod_num, show cod "draw b a -" = [100, 114, 97, 119, 32, 98, 32, 97, 32, 45] by decide +kernel]
 first | rfl | (simp only [Q9]; rfl)
theorem zDg (F5 : 5 <= F) (F6 : F < 10 ^ 60) : zbh "such" ((("draw b a -" : Str)) ++ Str.ofString (toString F)) := by
 have F7 : F < 10 ^ 70 := Wv F6 (by decide +kernel);have F0 : 0 <= F := by
  have : (0 : Int) < 10 ^ 60 := by decide
  lia
 refine ⟨?_, 4, rfl, fun n ps n1 n5 p5 => ?_⟩
 ·have a := (wU (vB (x := "draw b a -") (by decide +kernel) (by decide +kernel)) (vU (F := F) F0 F7));rw [cod_num.symm, <- yM] at a;exact ⟨a.1, Qc a.2 (by decide)⟩
 ·rw [zEy];exact ztj F5 F6
theorem zAy : cod (((("join b a " : Str)) ++ Str.ofString (toString F)) ++ (" few 0" : Str)) = v3 32 [gY, [98], [97], yS F, [102, 101, 119], [48]] := by
 rw [yM, yM, cod_num, show cod "join b a " = [106, 111, 105, 110, 32, 98, 32, 97, 32] by decide +kernel, show cod " few 0" = [32, 102, 101, 119, 32, 48] by decide +kernel]
 first | rfl | (simp only [Q9]; rfl)
theorem zyn (F5 : 5 <= F) (F6 : F < 10 ^ 60) : zbh "point" (((("join b a " : Str)) ++ Str.ofString (toString F)) ++ (" few 0" : Str)) := by
 have F7 : F < 10 ^ 70 := Wv F6 (by decide +kernel);have F0 : 0 <= F := by
  have : (0 : Int) < 10 ^ 60 := by decide
  lia
 refine ⟨?_, 5, rfl, fun n ps n1 n5 p5 => ?_⟩
 ·have a := (wU (wU (vB (x := "join b a ") (by decide +kernel) (by decide +kernel)) (vU (F := F) F0 F7)) (vB (x := " few 0") (by decide +kernel) (by decide +kernel)));rw [cod_num.symm, <- yM, <- yM] at a;exact ⟨a.1, Qc a.2 (by decide)⟩
 ·rw [zAy];exact zqa F5 F6 n5
theorem zAx : cod ((("join b many 9 few " : Str)) ++ Str.ofString (toString F)) = v3 32 [gY, [98], [109, 97, 110, 121], [57], [102, 101, 119], yS F] := by
 rw [yM, cod_num, show cod "join b many 9 few " = [106, 111, 105, 110, 32, 98, 32, 109, 97, 110, 121, 32, 57, 32, 102, 101, 119, 32] by decide +kernel]
 first | rfl | (simp only [Q9]; rfl)
theorem zym (F5 : 5 <= F) (F6 : F < 10 ^ 60) : zbh "point" ((("join b many 9 few " : Str)) ++ Str.ofString (toString F)) := by
 have F7 : F < 10 ^ 70 := Wv F6 (by decide +kernel);have F0 : 0 <= F := by
  have : (0 : Int) < 10 ^ 60 := by decide
  lia
 refine ⟨?_, 5, rfl, fun n ps n1 n5 p5 => ?_⟩
 ·have a := (wU (vB (x := "join b many 9 few ") (by decide +kernel) (by decide +kernel)) (vU (F := F) F0 F7));rw [cod_num.symm, <- yM] at a;exact ⟨a.1, Qc a.2 (by decide)⟩
 ·rw [zAx];exact zpz F5 F6
theorem zAu : cod ((((("turn b a 0 " : Str)) ++ Str.ofString (toString F)) ++ (" " : Str)) ++ Str.ofString (toString F)) = v3 32 [qR, [98], [97], [48], yS F, yS F] := by
 rw [yM, yM, yM, cod_num, show cod "turn b a 0 " = [116, 117, 114, 110, 32, 98, 32, 97, 32, 48, 32] by decide +kernel, show cod " " = [32] by decide +kernel]
 first | rfl | (simp only [Q9]; rfl)
theorem zyi (F5 : 5 <= F) (F6 : F < 10 ^ 60) : zbh "such" ((((("turn b a 0 " : Str)) ++ Str.ofString (toString F)) ++ (" " : Str)) ++ Str.ofString (toString F)) := by
 have F7 : F < 10 ^ 70 := Wv F6 (by decide +kernel);have F0 : 0 <= F := by
  have : (0 : Int) < 10 ^ 60 := by decide
  lia
 refine ⟨?_, 4, rfl, fun n ps n1 n5 p5 => ?_⟩
 ·have a := (wU (wU (wU (vB (x := "turn b a 0 ") (by decide +kernel) (by decide +kernel)) (vU (F := F) F0 F7)) (vB (x := " ") (by decide +kernel) (by decide +kernel))) (vU (F := F) F0 F7));rw [cod_num.symm, <- yM, <- yM, <- yM] at a;exact ⟨a.1, Qc a.2 (by decide)⟩
 ·rw [zAu];exact zpw F5 F6 p5
theorem zEz : cod ((("colours a -" : Str)) ++ Str.ofString (toString F)) = v3 32 [xQ, [97], 45 :: yS F] := by
 rw [yM, cod_num, show cod "colours a -" = [99, 111, 108, 111, 117, 114, 115, 32, 97, 32, 45] by decide +kernel]
 first | rfl | (simp only [Q9]; rfl)
theorem zDh (F5 : 5 <= F) (F6 : F < 10 ^ 60) : zbh "number" ((("colours a -" : Str)) ++ Str.ofString (toString F)) := by
 have F7 : F < 10 ^ 70 := Wv F6 (by decide +kernel);have F0 : 0 <= F := by
  have : (0 : Int) < 10 ^ 60 := by decide
  lia
 refine ⟨?_, 7, rfl, fun n ps n1 n5 p5 => ?_⟩
 ·have a := (wU (vB (x := "colours a -") (by decide +kernel) (by decide +kernel)) (vU (F := F) F0 F7));rw [cod_num.symm, <- yM] at a;exact ⟨a.1, Qc a.2 (by decide)⟩
 ·rw [zEz];exact ztk F5 F6
theorem zEx : cod ((("out b a " : Str)) ++ Str.ofString (toString F)) = v3 32 [zfl, [98], [97], yS F] := by
 rw [yM, cod_num, show cod "out b a " = [111, 117, 116, 32, 98, 32, 97, 32] by decide +kernel]
 first | rfl | (simp only [Q9]; rfl)
theorem zDf (F5 : 10 ^ 60 <= F) (F6 : F < 10 ^ 61) : zbh "row" ((("out b a " : Str)) ++ Str.ofString (toString F)) := by
 have F7 : F < 10 ^ 70 := Wv F6 (by decide +kernel);have F0 : 0 <= F := by
  have : (0 : Int) < 10 ^ 60 := by decide
  lia
 refine ⟨?_, 8, rfl, fun n ps n1 n5 p5 => ?_⟩
 ·have a := (wU (vB (x := "out b a ") (by decide +kernel) (by decide +kernel)) (vU (F := F) F0 F7));rw [cod_num.symm, <- yM] at a;exact ⟨a.1, Qc a.2 (by decide)⟩
 ·rw [zEx];unfold wT;rw [kX F5 _ (by unfold jH; simp)]
theorem zvr : cod (((("worth a -" : Str)) ++ Str.ofString (toString F)) ++ (" 1" : Str)) = v3 32 [zjb, [97], 45 :: yS F, [49]] := by
 rw [yM, yM, cod_num, show cod "worth a -" = [119, 111, 114, 116, 104, 32, 97, 32, 45] by decide +kernel, show cod " 1" = [32, 49] by decide +kernel]
 first | rfl | (simp only [Q9]; rfl)
theorem ztm (F5 : 10 ^ 60 <= F) (F6 : F < 10 ^ 61) : zbh "row" (((("worth a -" : Str)) ++ Str.ofString (toString F)) ++ (" 1" : Str)) := by
 have F7 : F < 10 ^ 70 := Wv F6 (by decide +kernel);have F0 : 0 <= F := by
  have : (0 : Int) < 10 ^ 60 := by decide
  lia
 refine ⟨?_, 8, rfl, fun n ps n1 n5 p5 => ?_⟩
 ·have a := (wU (wU (vB (x := "worth a -") (by decide +kernel) (by decide +kernel)) (vU (F := F) F0 F7)) (vB (x := " 1") (by decide +kernel) (by decide +kernel)));rw [cod_num.symm, <- yM, <- yM] at a;exact ⟨a.1, Qc a.2 (by decide)⟩
 ·rw [zvr];unfold wT;rw [kX F5 _ (by unfold jH; simp)]
theorem zAw : cod ((("colours a " : Str)) ++ Str.ofString (toString F)) = v3 32 [xQ, [97], yS F] := by
 rw [yM, cod_num, show cod "colours a " = [99, 111, 108, 111, 117, 114, 115, 32, 97, 32] by decide +kernel]
 first | rfl | (simp only [Q9]; rfl)
theorem zyl (F5 : 10 ^ 60 <= F) (F6 : F < 10 ^ 61) : zbh "row" ((("colours a " : Str)) ++ Str.ofString (toString F)) := by
 have F7 : F < 10 ^ 70 := Wv F6 (by decide +kernel);have F0 : 0 <= F := by
  have : (0 : Int) < 10 ^ 60 := by decide
  lia
 refine ⟨?_, 8, rfl, fun n ps n1 n5 p5 => ?_⟩
 ·have a := (wU (vB (x := "colours a ") (by decide +kernel) (by decide +kernel)) (vU (F := F) F0 F7));rw [cod_num.symm, <- yM] at a;exact ⟨a.1, Qc a.2 (by decide)⟩
 ·rw [zAw];unfold wT;rw [kX F5 _ (by unfold jH; simp)]
theorem zAv : cod ((("turn b a 0 1 " : Str)) ++ Str.ofString (toString F)) = v3 32 [qR, [98], [97], [48], [49], yS F] := by
 rw [yM, cod_num, show cod "turn b a 0 1 " = [116, 117, 114, 110, 32, 98, 32, 97, 32, 48, 32, 49, 32] by decide +kernel]
 first | rfl | (simp only [Q9]; rfl)
theorem zyk (F5 : 10 ^ 60 <= F) (F6 : F < 10 ^ 61) : zbh "row" ((("turn b a 0 1 " : Str)) ++ Str.ofString (toString F)) := by
 have F7 : F < 10 ^ 70 := Wv F6 (by decide +kernel);have F0 : 0 <= F := by
  have : (0 : Int) < 10 ^ 60 := by decide
  lia
 refine ⟨?_, 8, rfl, fun n ps n1 n5 p5 => ?_⟩
 ·have a := (wU (vB (x := "turn b a 0 1 ") (by decide +kernel) (by decide +kernel)) (vU (F := F) F0 F7));rw [cod_num.symm, <- yM] at a;exact ⟨a.1, Qc a.2 (by decide)⟩
 ·rw [zAv];unfold wT;rw [kX F5 _ (by unfold jH; simp)]
theorem zyj : zbh "point" "turn b a 0 0" := ⟨by unfold Asc; decide +kernel, 5, rfl, fun n ps n1 _ _ => zpx n1⟩
end
end My
namespace My
open PySem L2
def PrAt (H : Hp) (v : V) (p : Str × Str) : Prop := ∃ t, v = .ref t /\ H t = some (.tup [.str p.1, .str p.2])
theorem PrAt.same {H H' : Hp} {v : V} {p : Str × Str} (h : PrAt H v p) (s : Same H H') : PrAt H' v p := let ⟨t, e, ht⟩ := h; ⟨t, e, s _ _ ht⟩
theorem zX {H H' : Hp} {vs : List V} {ps : List (Str × Str)} (h : Paired (PrAt H) vs ps) (s : Same H H') : Paired (PrAt H') vs ps := L2.Paired.mapP h fun _ _ q => q.same s
theorem PrAt.put {H : Hp} {v : V} {p : Str × Str} {l : Addr} {xs ys : List V} (h : PrAt H v p) (hl : H l = some (.lst xs)) : PrAt (upd H l (.lst ys)) v p := by
 obtain ⟨t, e, ht⟩ := h;exact ⟨t, e, by rw [zS (kU ht hl (by intro z; cases z))]; exact ht⟩
section
variable {X : Cx} {S : St -> Prop}
def PEs (X : Cx) (S : St -> Prop) (e : Expr) (z : Str) : Prop := PE X e (fun σ H Q => S σ /\ Q (.str z) H)
theorem zK {z : Str} {j : Nat} {pos : Pos} : PEs X S (.Constant (.str z) j pos) z := fun pins s σ H Q I h => zE pins s σ H Q I h.2
theorem vQ {a b : Expr} {x y : Str} {pos : Pos} (ha : PEs X S a x) (hb : PEs X S b y) (hl : x.length + y.length <= sizeLine) : PEs X S (.BinOp a .Add b pos) (x ++ y) := fun pins s σ H Q I h => zN xA ha hb pins s σ H Q I ⟨h.1, h.1, x, y, rfl, rfl, hl, h.2⟩
theorem zon {a : Expr} {x : Str} {n : Nat} {j : Nat} {p pos : Pos} (ha : PEs X S a x) (hn : 2 <= n /\ n <= 100) (hx : 1 <= x.length /\ x.length <= 100) : PEs X S (.BinOp a .Mult (.Constant (.int (n : Int)) j p) pos) (zyh x n) := fun pins s σ H Q I h => zN zze ha zF pins s σ H Q I ⟨h.1, x, n, rfl, rfl, hn.1, hn.2, hx.1, hx.2, h.2⟩
def zFj (S : St -> Prop) (ps : List (Str × Str)) : TA := fun σ H Q => S σ /\ ∀ vs H', Same H H' -> Paired (PrAt H') vs ps -> Q vs H'
theorem v8 : PA X [] (zFj S []) := fun pos pins s σ H Q I h => zC pos pins s σ H Q I (h.2 [] H (Same.refl H) .nil)
theorem yV {a b : Expr} {j : Nat} {pos : Pos} {es : List Expr} {x y : Str} {ps : List (Str × Str)} (ha : PEs X S a x) (hb : PEs X S b y) (hr : PA X es (zFj S ps)) (h1 : starEach [a, b] X.env = (false, eval a X.env) :: starEach [b] X.env := by rfl) (h2 : starEach [b] X.env = [(false, eval b X.env)] := by rfl)
  (h3 : starEach (.Tuple [a, b] j pos :: es) X.env = (false, eval (.Tuple [a, b] j pos) X.env) :: starEach es X.env := by rfl) : PA X (.Tuple [a, b] j pos :: es) (zFj S ((x, y) :: ps)) := fun po pins s σ H Q I h =>
 zA (wH (zA ha (zA hb zC h2) h1)) hr h3 po pins s σ H Q I ⟨h.1, h.1, by show 2 <= sizeLine; decide, fun t ht => ⟨h.1, fun vs H' s' hp => h.2 (.ref t :: vs) H' ((Same.new ht).trans s') (.cons ⟨t, rfl, s' _ _ zB⟩ hp)⟩⟩
theorem jY {x : Str} {f : Str} {p : Pos} (hN : X.N[1]? = some x) (hv : Vis X.env.scope x) (hS : ∀ σ, S σ -> σ[1]? = some (some (.str f))) (hd : (x == ("__debug__" : Str)) = false := by decide) (hcd : (x == ("__classdict__" : Str)) = false := by decide) : PEs X S (.Name x p) f := fun pins s σ H Q I h => zwj hN hv hd hcd pins s σ H Q I ⟨_, hS σ h.1, h.2⟩
end
theorem zCb {n : Int} (h : n.natAbs < 10 ^ 61) : n.natAbs.log2 < 1920 := by
 by_cases z : n.natAbs = 0
 ·rw [z]; decide
 ·refine (Nat.log2_lt z).mpr (Nat.lt_trans h ?_);decide +kernel
theorem zFe {H : Hp} {xs : List V} {ps : List (Str × Str)} (h : Paired (PrAt H) xs ps) {i : Int} (h0 : 0 <= i) (hl : i < ps.length) : ∃ v p, p ∈ ps /\ atI xs i = some v /\ PrAt H v p := by
 obtain ⟨j, rfl⟩ := Q0 h0;have hx : j < xs.length := by rw [Paired.length h]; lia
 obtain ⟨p, e, r⟩ := Paired.at h (i := j) (a := xs[j]) (by simp [hx]);exact ⟨xs[j], p, Q6 e, zJ (j := j) (by simp [hx]), r⟩
def zoe : Sp := fun vs H Q _ => ∃ cc : Int, vs = [.int cc] /\ ∀ a x z H', zbh x z -> Same H H' -> H' a = some (.tup [.str x, .str z]) -> Q (.ref a) H'
def zwb : Sp := fun vs H Q _ => ∃ cc : Int, vs = [.int cc] /\ ∀ z H', zbh "row" z -> Same H H' -> Q (.str z) H'
theorem zpe {F : Int} (h : 0 <= F) (h2 : F < 10 ^ 61) : (Str.ofString (toString F)).length <= 61 := by
 have := zhw h (k := 61) (by decide) h2;rw [<- yP] at this;rw [dec_str];exact this
theorem v7 {a b : Nat} {x y : Str} (h1 : x.length <= a) (h2 : y.length <= b) (h3 : a + b <= 1000) : x.length + y.length <= sizeLine := Qc (show _ <= 1000 by lia) (by decide)
theorem zdv {a b : Nat} {x y : Str} (h1 : x.length <= a) (h2 : y.length <= b) : (x ++ y).length <= a + b := by
 have e : (x ++ y).length = x.length + y.length := by
  show (x ++ y).cps.size = x.cps.size + y.cps.size;rw [PySem.Str.cps_append, Array.size_append]
 lia
section
variable {P : Program} {w : World} {K : W.Frag} {mg : Str -> Option Value} {base : Heap}
seal PSs PS PE PI PA PT PG
theorem scOther : zR ["_law_cell", "_law_far", "_law_some"] ["_law_cell"] (zH zii) := ⟨rfl, rfl, rfl, by decide +kernel, rfl, by decide +kernel, by decide +kernel⟩
theorem zAj (T : Txt K mg) (S : Src K mg "_law_other" zii ["_law_cell"]) : Def P w K mg base 1 "_law_other" ["_law_cell"] zoe := by
 refine S.def scOther (fun vs H Q E h => ?_) (fun f cdv A outer s H vs Q E hr h => ?_)
 ·obtain ⟨_, rfl, _⟩ := h; rfl
 ·obtain ⟨cc, rfl, q⟩ := h;have pw : (0 : Int) < 10 ^ 50 := by decide +kernel
  have m0 := Jk (cc / 34) (show (10 : Int) ^ 50 ≠ 0 by lia);have m1 := Jj (cc / 34) pw;obtain ⟨F, eF⟩ : ∃ F : Int, F = 5 + cc / 34 % 10 ^ 50 := ⟨_, rfl⟩;have p6 : (5 : Int) + 10 ^ 50 < 10 ^ 60 := by decide +kernel
  have F5 : 5 <= F := by lia
  have F6 : F < 10 ^ 60 := by lia
  have p61 : (10 : Int) ^ 60 < 10 ^ 61 := by decide +kernel
  have fl := zpe (F := F) (by lia) (by lia);have hl1 : ∀ {x : Str}, x.length <= 30 -> x.length + (Str.ofString (toString F)).length <= sizeLine := fun h => v7 h fl (by decide);have hl2 : ∀ {x y : Str}, x.length <= 30 -> y.length <= 30 -> (x ++ Str.ofString (toString F)).length + y.length <= sizeLine := fun h h' => v7 (zdv h fl) h' (by decide);have hl3 : ∀ {x y : Str}, x.length <= 30 -> y.length <= 30 -> ((x ++ Str.ofString (toString F)) ++ y).length + (Str.ofString (toString F)).length <= sizeLine := fun h h' => v7 (zdv (zdv h fl) h') fl (by decide);refine ⟨_, zD (zU (i := 1) scOther.nd rfl (Or.inl rfl) (yG wE rfl T.str w4 (zA (zN w8 zF (zN w5 (zN qG (pv 0) zF) (zN znm zF zF))) zC)))
   (zD (zU (i := 2) scOther.nd rfl (Or.inl rfl) (yF (yV (S := fun σ => σ[1]? = some (some (V.str (Str.ofString (toString F))))) zK zK (yV zK zK (yV zK zK (yV zK zK v8))))))
   (zD (zU (i := 2) scOther.nd rfl (Or.inl rfl) (zN yZ (pv 2) (yF (yV (S := fun σ => σ[1]? = some (some (V.str (Str.ofString (toString F))))) zK zK (yV zK zK (yV zK zK (yV zK zK v8)))))))
   (zD (zU (i := 2) scOther.nd rfl (Or.inl rfl) (zN yZ (pv 2) (yF (yV (S := fun σ => σ[1]? = some (some (V.str (Str.ofString (toString F))))) zK (vQ zK (zon zK (by decide +kernel) (by decide +kernel)) (by decide +kernel)) (yV zK (vQ zK (zon zK (by decide +kernel) (by decide +kernel)) (by decide +kernel)) v8)))))
   (zD (xI (kS PySem.F.plainAttrs_list PySem.F.slot_list_append PySem.F.type_list_append kW (pv 2) (yV (S := fun σ => σ[1]? = some (some (V.str (Str.ofString (toString F))))) zK zK v8)))
   (zD (zU (i := 2) scOther.nd rfl (Or.inl rfl) (zN yZ (pv 2) (yF (yV (S := fun σ => σ[1]? = some (some (V.str (Str.ofString (toString F))))) zK (vQ zK (jY (f := Str.ofString (toString F)) rfl (Or.inl rfl) fun _ h => h) (hl1 (by decide +kernel))) (yV zK zK (yV zK (vQ zK (jY (f := Str.ofString (toString F)) rfl (Or.inl rfl) fun _ h => h) (hl1 (by decide +kernel))) v8))))))
   (zD (zU (i := 2) scOther.nd rfl (Or.inl rfl) (zN yZ (pv 2) (yF (yV (S := fun σ => σ[1]? = some (some (V.str (Str.ofString (toString F))))) zK zK (yV zK zK (yV zK zK v8))))))
   (zD (zU (i := 2) scOther.nd rfl (Or.inl rfl) (zN yZ (pv 2) (yF (yV (S := fun σ => σ[1]? = some (some (V.str (Str.ofString (toString F))))) zK zK (yV zK (vQ (vQ zK (jY (f := Str.ofString (toString F)) rfl (Or.inl rfl) fun _ h => h) (hl1 (by decide +kernel))) zK (hl2 (by decide +kernel) (by decide +kernel))) v8)))))
   (zD (zU (i := 2) scOther.nd rfl (Or.inl rfl) (zN yZ (pv 2) (yF (yV (S := fun σ => σ[1]? = some (some (V.str (Str.ofString (toString F))))) zK (vQ zK (jY (f := Str.ofString (toString F)) rfl (Or.inl rfl) fun _ h => h) (hl1 (by decide +kernel))) (yV zK zK (yV zK zK v8))))))
   (zD (zU (i := 2) scOther.nd rfl (Or.inl rfl) (zN yZ (pv 2) (yF (yV (S := fun σ => σ[1]? = some (some (V.str (Str.ofString (toString F))))) zK (vQ (vQ (vQ zK (jY (f := Str.ofString (toString F)) rfl (Or.inl rfl) fun _ h => h) (hl1 (by decide +kernel))) zK (hl2 (by decide +kernel) (by decide +kernel))) (jY (f := Str.ofString (toString F)) rfl (Or.inl rfl) fun _ h => h) (hl3 (by decide +kernel) (by decide +kernel))) (yV zK zK v8)))))
   (zD (zU (i := 2) scOther.nd rfl (Or.inl rfl) (zN yZ (pv 2) (yF (yV (S := fun σ => σ[1]? = some (some (V.str (Str.ofString (toString F))))) zK zK (yV zK (vQ zK (jY (f := Str.ofString (toString F)) rfl (Or.inl rfl) fun _ h => h) (hl1 (by decide +kernel))) (yV zK zK v8))))))
   (zD (zU (i := 2) scOther.nd rfl (Or.inl rfl) (zN yZ (pv 2) (yF (yV (S := fun σ => σ[1]? = some (some (V.str (Str.ofString (toString F))))) zK zK (yV zK zK v8)))))
   (zD (zU (i := 2) scOther.nd rfl (Or.inl rfl) (zN yZ (pv 2) (yF (yV (S := fun σ => σ[1]? = some (some (V.str (Str.ofString (toString F))))) zK zK (yV zK zK (yV zK zK v8))))))
   (zD (zU (i := 2) scOther.nd rfl (Or.inl rfl) (zN yZ (pv 2) (yF (yV (S := fun σ => σ[1]? = some (some (V.str (Str.ofString (toString F))))) zK zK (yV zK zK v8)))))
   (zG (zV (zT (zO K) (pv 2) (zN w5 (pv 0) zF) (fun _ _ => rfl))))))))))))))))), ?_⟩
  refine ⟨_, rfl, cc, 34, rfl, rfl, ⟨by decide, by decide⟩, 10, 50, rfl, rfl, ⟨by decide, by decide, by decide⟩, _, _, rfl, rfl, pw, _, _, rfl, rfl, F, congrArg (fun z => [V.int z]) eF.symm, zCb ?_, ?_⟩
  ·have : F < 10 ^ 61 := by lia
   have k : ((10 ^ 61 : Nat) : Int) = 10 ^ 61 := by decide +kernel
   lia
  dsimp only [List.set];refine ⟨rfl, fun vs1 G1 t1 hp1 => ⟨by rw [Paired.length hp1]; exact Qu (zI (Qt rfl)), fun p1 h1 => ?_⟩⟩;have f1 : H p1 = none := xP t1 h1;have s1 := t1.trans (Same.new (o := HO.lst vs1) h1);have l1 : (upd G1 p1 (.lst vs1)) p1 = some (.lst vs1) := zB;have a1 := zX hp1 (Same.new (o := HO.lst vs1) h1);generalize upd G1 p1 (.lst vs1) = H1 at s1 l1 a1 ⊢;refine ⟨_, rfl, rfl, fun ws2 G2 t2 hp2 => ⟨by rw [Paired.length hp2]; exact Qu (zI (Qt rfl)), fun q2 g2 => ?_⟩⟩;refine ⟨p1, q2, vs1, ws2, rfl, rfl, (t2.trans (Same.new g2)) _ _ l1, zB, by rw [Paired.length a1, Paired.length hp2]; exact Qu (zI (Qt rfl)), fun p2 h2 => ?_⟩;have u2 := t2.trans (Same.new (o := HO.lst ws2) g2);have f2 : H p2 = none := xP (s1.trans u2) h2;have s2 := (s1.trans u2).trans (Same.new (o := HO.lst (vs1 ++ ws2)) h2);have a2 := zX (xW (zX a1 u2) (zX hp2 (Same.new (o := HO.lst ws2) g2))) (Same.new (o := HO.lst (vs1 ++ ws2)) h2);have l2 : (upd (upd G2 q2 (.lst ws2)) p2 (.lst (vs1 ++ ws2))) p2 = some (.lst (vs1 ++ ws2)) := zB;generalize upd (upd G2 q2 (.lst ws2)) p2 (.lst (vs1 ++ ws2)) = H2 at s2 l2 a2 ⊢;generalize vs1 ++ ws2 = vs2 at l2 a2 ⊢;refine ⟨_, rfl, rfl, fun ws3 G3 t3 hp3 => ⟨by rw [Paired.length hp3]; exact Qu (zI (Qt rfl)), fun q3 g3 => ?_⟩⟩;refine ⟨p2, q3, vs2, ws3, rfl, rfl, (t3.trans (Same.new g3)) _ _ l2, zB, by rw [Paired.length a2, Paired.length hp3]; exact Qu (zI (Qt rfl)), fun p3 h3 => ?_⟩;have u3 := t3.trans (Same.new (o := HO.lst ws3) g3);have f3 : H p3 = none := xP (s2.trans u3) h3;have s3 := (s2.trans u3).trans (Same.new (o := HO.lst (vs2 ++ ws3)) h3);have a3 := zX (xW (zX a2 u3) (zX hp3 (Same.new (o := HO.lst ws3) g3))) (Same.new (o := HO.lst (vs2 ++ ws3)) h3);have l3 : (upd (upd G3 q3 (.lst ws3)) p3 (.lst (vs2 ++ ws3))) p3 = some (.lst (vs2 ++ ws3)) := zB;generalize upd (upd G3 q3 (.lst ws3)) p3 (.lst (vs2 ++ ws3)) = H3 at s3 l3 a3 ⊢;generalize vs2 ++ ws3 = vs3 at l3 a3 ⊢;refine ⟨_, rfl, .inl ⟨rfl, _, SqL.of l3⟩, rfl, fun vs4' G4 t4 hp4 => ?_⟩;obtain ⟨v4, rfl⟩ : ∃ v, vs4' = [v] := by
   cases hp4 with
   | cons a b => cases b; exact ⟨_, rfl⟩
  refine ⟨p3, _, _, rfl, rfl, t4 _ _ l3, by rw [Paired.length a3]; exact zI (Qt rfl), ?_⟩;have f4 := f3;have s4 : Same H (upd G4 p3 (.lst (vs3 ++ [v4]))) := wO (s3.trans t4) f3;have a4 : Paired (PrAt (upd G4 p3 (.lst (vs3 ++ [v4])))) (vs3 ++ [v4]) _ := L2.Paired.mapP (xW (zX a3 t4) hp4) fun _ _ z => z.put (t4 _ _ l3);have l4 : (upd G4 p3 (.lst (vs3 ++ [v4]))) p3 = some (.lst (vs3 ++ [v4])) := zB;generalize upd G4 p3 (.lst (vs3 ++ [v4])) = H4 at s4 l4 a4 ⊢;generalize vs3 ++ [v4] = vs4 at l4 a4;generalize p3 = p4 at f4 l4 ⊢;refine ⟨_, rfl, rfl, fun ws5 G5 t5 hp5 => ⟨by rw [Paired.length hp5]; exact Qu (zI (Qt rfl)), fun q5 g5 => ?_⟩⟩;refine ⟨p4, q5, vs4, ws5, rfl, rfl, (t5.trans (Same.new g5)) _ _ l4, zB, by rw [Paired.length a4, Paired.length hp5]; exact Qu (zI (Qt rfl)), fun p5 h5 => ?_⟩;have u5 := t5.trans (Same.new (o := HO.lst ws5) g5);have f5 : H p5 = none := xP (s4.trans u5) h5;have s5 := (s4.trans u5).trans (Same.new (o := HO.lst (vs4 ++ ws5)) h5);have a5 := zX (xW (zX a4 u5) (zX hp5 (Same.new (o := HO.lst ws5) g5))) (Same.new (o := HO.lst (vs4 ++ ws5)) h5);have l5 : (upd (upd G5 q5 (.lst ws5)) p5 (.lst (vs4 ++ ws5))) p5 = some (.lst (vs4 ++ ws5)) := zB;generalize upd (upd G5 q5 (.lst ws5)) p5 (.lst (vs4 ++ ws5)) = H5 at s5 l5 a5 ⊢;generalize vs4 ++ ws5 = vs5 at l5 a5 ⊢;refine ⟨_, rfl, rfl, fun ws6 G6 t6 hp6 => ⟨by rw [Paired.length hp6]; exact Qu (zI (Qt rfl)), fun q6 g6 => ?_⟩⟩;refine ⟨p5, q6, vs5, ws6, rfl, rfl, (t6.trans (Same.new g6)) _ _ l5, zB, by rw [Paired.length a5, Paired.length hp6]; exact Qu (zI (Qt rfl)), fun p6 h6 => ?_⟩;have u6 := t6.trans (Same.new (o := HO.lst ws6) g6);have f6 : H p6 = none := xP (s5.trans u6) h6;have s6 := (s5.trans u6).trans (Same.new (o := HO.lst (vs5 ++ ws6)) h6);have a6 := zX (xW (zX a5 u6) (zX hp6 (Same.new (o := HO.lst ws6) g6))) (Same.new (o := HO.lst (vs5 ++ ws6)) h6);have l6 : (upd (upd G6 q6 (.lst ws6)) p6 (.lst (vs5 ++ ws6))) p6 = some (.lst (vs5 ++ ws6)) := zB;generalize upd (upd G6 q6 (.lst ws6)) p6 (.lst (vs5 ++ ws6)) = H6 at s6 l6 a6 ⊢;generalize vs5 ++ ws6 = vs6 at l6 a6 ⊢;refine ⟨_, rfl, rfl, fun ws7 G7 t7 hp7 => ⟨by rw [Paired.length hp7]; exact Qu (zI (Qt rfl)), fun q7 g7 => ?_⟩⟩;refine ⟨p6, q7, vs6, ws7, rfl, rfl, (t7.trans (Same.new g7)) _ _ l6, zB, by rw [Paired.length a6, Paired.length hp7]; exact Qu (zI (Qt rfl)), fun p7 h7 => ?_⟩;have u7 := t7.trans (Same.new (o := HO.lst ws7) g7);have f7 : H p7 = none := xP (s6.trans u7) h7;have s7 := (s6.trans u7).trans (Same.new (o := HO.lst (vs6 ++ ws7)) h7);have a7 := zX (xW (zX a6 u7) (zX hp7 (Same.new (o := HO.lst ws7) g7))) (Same.new (o := HO.lst (vs6 ++ ws7)) h7);have l7 : (upd (upd G7 q7 (.lst ws7)) p7 (.lst (vs6 ++ ws7))) p7 = some (.lst (vs6 ++ ws7)) := zB;generalize upd (upd G7 q7 (.lst ws7)) p7 (.lst (vs6 ++ ws7)) = H7 at s7 l7 a7 ⊢;generalize vs6 ++ ws7 = vs7 at l7 a7 ⊢;refine ⟨_, rfl, rfl, fun ws8 G8 t8 hp8 => ⟨by rw [Paired.length hp8]; exact Qu (zI (Qt rfl)), fun q8 g8 => ?_⟩⟩;refine ⟨p7, q8, vs7, ws8, rfl, rfl, (t8.trans (Same.new g8)) _ _ l7, zB, by rw [Paired.length a7, Paired.length hp8]; exact Qu (zI (Qt rfl)), fun p8 h8 => ?_⟩;have u8 := t8.trans (Same.new (o := HO.lst ws8) g8);have f8 : H p8 = none := xP (s7.trans u8) h8;have s8 := (s7.trans u8).trans (Same.new (o := HO.lst (vs7 ++ ws8)) h8);have a8 := zX (xW (zX a7 u8) (zX hp8 (Same.new (o := HO.lst ws8) g8))) (Same.new (o := HO.lst (vs7 ++ ws8)) h8);have l8 : (upd (upd G8 q8 (.lst ws8)) p8 (.lst (vs7 ++ ws8))) p8 = some (.lst (vs7 ++ ws8)) := zB;generalize upd (upd G8 q8 (.lst ws8)) p8 (.lst (vs7 ++ ws8)) = H8 at s8 l8 a8 ⊢;generalize vs7 ++ ws8 = vs8 at l8 a8 ⊢;refine ⟨_, rfl, rfl, fun ws9 G9 t9 hp9 => ⟨by rw [Paired.length hp9]; exact Qu (zI (Qt rfl)), fun q9 g9 => ?_⟩⟩;refine ⟨p8, q9, vs8, ws9, rfl, rfl, (t9.trans (Same.new g9)) _ _ l8, zB, by rw [Paired.length a8, Paired.length hp9]; exact Qu (zI (Qt rfl)), fun p9 h9 => ?_⟩;have u9 := t9.trans (Same.new (o := HO.lst ws9) g9);have f9 : H p9 = none := xP (s8.trans u9) h9;have s9 := (s8.trans u9).trans (Same.new (o := HO.lst (vs8 ++ ws9)) h9);have a9 := zX (xW (zX a8 u9) (zX hp9 (Same.new (o := HO.lst ws9) g9))) (Same.new (o := HO.lst (vs8 ++ ws9)) h9);have l9 : (upd (upd G9 q9 (.lst ws9)) p9 (.lst (vs8 ++ ws9))) p9 = some (.lst (vs8 ++ ws9)) := zB;generalize upd (upd G9 q9 (.lst ws9)) p9 (.lst (vs8 ++ ws9)) = H9 at s9 l9 a9 ⊢;generalize vs8 ++ ws9 = vs9 at l9 a9 ⊢;refine ⟨_, rfl, rfl, fun ws10 G10 t10 hp10 => ⟨by rw [Paired.length hp10]; exact Qu (zI (Qt rfl)), fun q10 g10 => ?_⟩⟩;refine ⟨p9, q10, vs9, ws10, rfl, rfl, (t10.trans (Same.new g10)) _ _ l9, zB, by rw [Paired.length a9, Paired.length hp10]; exact Qu (zI (Qt rfl)), fun p10 h10 => ?_⟩;have u10 := t10.trans (Same.new (o := HO.lst ws10) g10);have f10 : H p10 = none := xP (s9.trans u10) h10;have s10 := (s9.trans u10).trans (Same.new (o := HO.lst (vs9 ++ ws10)) h10);have a10 := zX (xW (zX a9 u10) (zX hp10 (Same.new (o := HO.lst ws10) g10))) (Same.new (o := HO.lst (vs9 ++ ws10)) h10);have l10 : (upd (upd G10 q10 (.lst ws10)) p10 (.lst (vs9 ++ ws10))) p10 = some (.lst (vs9 ++ ws10)) := zB;generalize upd (upd G10 q10 (.lst ws10)) p10 (.lst (vs9 ++ ws10)) = H10 at s10 l10 a10 ⊢;generalize vs9 ++ ws10 = vs10 at l10 a10 ⊢;refine ⟨_, rfl, rfl, fun ws11 G11 t11 hp11 => ⟨by rw [Paired.length hp11]; exact Qu (zI (Qt rfl)), fun q11 g11 => ?_⟩⟩;refine ⟨p10, q11, vs10, ws11, rfl, rfl, (t11.trans (Same.new g11)) _ _ l10, zB, by rw [Paired.length a10, Paired.length hp11]; exact Qu (zI (Qt rfl)), fun p11 h11 => ?_⟩;have u11 := t11.trans (Same.new (o := HO.lst ws11) g11);have f11 : H p11 = none := xP (s10.trans u11) h11;have s11 := (s10.trans u11).trans (Same.new (o := HO.lst (vs10 ++ ws11)) h11);have a11 := zX (xW (zX a10 u11) (zX hp11 (Same.new (o := HO.lst ws11) g11))) (Same.new (o := HO.lst (vs10 ++ ws11)) h11);have l11 : (upd (upd G11 q11 (.lst ws11)) p11 (.lst (vs10 ++ ws11))) p11 = some (.lst (vs10 ++ ws11)) := zB;generalize upd (upd G11 q11 (.lst ws11)) p11 (.lst (vs10 ++ ws11)) = H11 at s11 l11 a11 ⊢;generalize vs10 ++ ws11 = vs11 at l11 a11 ⊢;refine ⟨_, rfl, rfl, fun ws12 G12 t12 hp12 => ⟨by rw [Paired.length hp12]; exact Qu (zI (Qt rfl)), fun q12 g12 => ?_⟩⟩;refine ⟨p11, q12, vs11, ws12, rfl, rfl, (t12.trans (Same.new g12)) _ _ l11, zB, by rw [Paired.length a11, Paired.length hp12]; exact Qu (zI (Qt rfl)), fun p12 h12 => ?_⟩;have u12 := t12.trans (Same.new (o := HO.lst ws12) g12);have f12 : H p12 = none := xP (s11.trans u12) h12;have s12 := (s11.trans u12).trans (Same.new (o := HO.lst (vs11 ++ ws12)) h12);have a12 := zX (xW (zX a11 u12) (zX hp12 (Same.new (o := HO.lst ws12) g12))) (Same.new (o := HO.lst (vs11 ++ ws12)) h12);have l12 : (upd (upd G12 q12 (.lst ws12)) p12 (.lst (vs11 ++ ws12))) p12 = some (.lst (vs11 ++ ws12)) := zB;generalize upd (upd G12 q12 (.lst ws12)) p12 (.lst (vs11 ++ ws12)) = H12 at s12 l12 a12 ⊢;generalize vs11 ++ ws12 = vs12 at l12 a12 ⊢;refine ⟨_, rfl, rfl, fun ws13 G13 t13 hp13 => ⟨by rw [Paired.length hp13]; exact Qu (zI (Qt rfl)), fun q13 g13 => ?_⟩⟩;refine ⟨p12, q13, vs12, ws13, rfl, rfl, (t13.trans (Same.new g13)) _ _ l12, zB, by rw [Paired.length a12, Paired.length hp13]; exact Qu (zI (Qt rfl)), fun p13 h13 => ?_⟩;have u13 := t13.trans (Same.new (o := HO.lst ws13) g13);have f13 : H p13 = none := xP (s12.trans u13) h13;have s13 := (s12.trans u13).trans (Same.new (o := HO.lst (vs12 ++ ws13)) h13);have a13 := zX (xW (zX a12 u13) (zX hp13 (Same.new (o := HO.lst ws13) g13))) (Same.new (o := HO.lst (vs12 ++ ws13)) h13);have l13 : (upd (upd G13 q13 (.lst ws13)) p13 (.lst (vs12 ++ ws13))) p13 = some (.lst (vs12 ++ ws13)) := zB;generalize upd (upd G13 q13 (.lst ws13)) p13 (.lst (vs12 ++ ws13)) = H13 at s13 l13 a13 ⊢;generalize vs12 ++ ws13 = vs13 at l13 a13 ⊢;obtain ⟨v, p, hp, ev, t, rfl, ht⟩ := zFe a13 (i := cc % 34) (Jk _ (by decide)) (Jj _ (by decide));refine ⟨_, rfl, _, rfl, cc, 34, rfl, rfl, by show (0 : Int) < 34; decide, p13, _, _, _, rfl, rfl, SqL.of l13, ev, q t p.1 p.2 H13 ?_ s13 ht⟩;simp only [Q5, Qy, Ju, or_false] at hp;rcases hp with (((((((((((((rfl | rfl | rfl | rfl) | (rfl | rfl | rfl | rfl)) | (rfl | rfl)) | rfl) | (rfl | rfl | rfl)) | (rfl | rfl | rfl)) | (rfl | rfl)) | (rfl | rfl | rfl)) | (rfl | rfl)) | (rfl | rfl | rfl)) | (rfl | rfl)) | (rfl | rfl | rfl)) | (rfl | rfl))
  ·exact yU (i := 0) (j := 0) rfl
  ·exact yU (i := 1) (j := 0) rfl
  ·exact yU (i := 2) (j := 0) rfl
  ·exact yU (i := 3) (j := 0) rfl
  ·exact yU (i := 4) (j := 0) rfl
  ·exact yU (i := 5) (j := 1) rfl
  ·exact yU (i := 6) (j := 1) rfl
  ·exact yU (i := 7) (j := 3) rfl
  ·exact yU (i := 8) (j := 2) rfl
  ·exact yU (i := 9) (j := 2) rfl
  ·exact yU (i := 10) (j := 3) rfl
  ·exact zGp F5 F6
  ·exact yU (i := 11) (j := 4) rfl
  ·exact zDg F5 F6
  ·exact yU (i := 12) (j := 4) rfl
  ·exact yU (i := 13) (j := 2) rfl
  ·exact yU (i := 14) (j := 2) rfl
  ·exact yU (i := 15) (j := 2) rfl
  ·exact zyn F5 F6
  ·exact zym F5 F6
  ·exact yU (i := 16) (j := 5) rfl
  ·exact zyj
  ·exact zyi F5 F6
  ·exact yU (i := 17) (j := 4) rfl
  ·exact yU (i := 18) (j := 6) rfl
  ·exact zDh F5 F6
  ·exact yU (i := 19) (j := 7) rfl
  ·exact yU (i := 20) (j := 5) rfl
  ·exact yU (i := 21) (j := 2) rfl
  ·exact yU (i := 22) (j := 2) rfl
  ·exact yU (i := 23) (j := 0) rfl
  ·exact yU (i := 24) (j := 0) rfl
  ·exact yU (i := 25) (j := 0) rfl
  ·exact yU (i := 26) (j := 0) rfl
theorem scLong : zR ["_law_cell", "_law_far"] ["_law_cell"] (zH zrx) := ⟨rfl, rfl, rfl, by decide +kernel, rfl, by decide +kernel, by decide +kernel⟩
theorem zEq (T : Txt K mg) (S : Src K mg "_law_long_row" zrx ["_law_cell"]) : Def P w K mg base 1 "_law_long_row" ["_law_cell"] zwb := by
 refine S.def scLong (fun vs H Q E h => ?_) (fun f cdv A outer s H vs Q E hr h => ?_)
 ·obtain ⟨_, rfl, _⟩ := h; rfl
 ·obtain ⟨cc, rfl, q⟩ := h;have pw : (0 : Int) < 10 ^ 60 := by decide +kernel
  have m0 := Jk (cc / 4) (show (10 : Int) ^ 60 ≠ 0 by lia);have m1 := Jj (cc / 4) pw;obtain ⟨F, eF⟩ : ∃ F : Int, F = 10 ^ 60 + cc / 4 % 10 ^ 60 := ⟨_, rfl⟩;have p6 : (10 : Int) ^ 60 + 10 ^ 60 < 10 ^ 61 := by decide +kernel
  have F5 : 10 ^ 60 <= F := by lia
  have F6 : F < 10 ^ 61 := by lia
  have fl := zpe (F := F) (by lia) F6;refine ⟨_, zD (zU (i := 1) scLong.nd rfl (Or.inl rfl) (yG wE rfl T.str w4 (zA (zN w8 (zN znm zF zF) (zN w5 (zN qG (pv 0) zF) (zN znm zF zF))) zC)))
   (zG (zV (zT (zO K) (yF (zA (zN xA zE (pv 1)) (zA (zN xA (zN xA zE (pv 1)) zE) (zA (zN xA zE (pv 1)) (zA (zN xA zE (pv 1)) zC))))) (zN w5 (pv 0) zF) (fun _ _ => rfl)))), ?_⟩
  refine ⟨10, 60, rfl, rfl, ⟨by decide, by decide, by decide⟩, _, rfl, cc, 4, rfl, rfl, ⟨by decide, by decide⟩, 10, 60, rfl, rfl, ⟨by decide, by decide, by decide⟩, _, _, rfl, rfl, pw, _, _, rfl, rfl, F, congrArg (fun z => [V.int z]) eF.symm, zCb ?_, ?_⟩
  ·have k : ((10 ^ 61 : Nat) : Int) = 10 ^ 61 := by decide +kernel
   lia
  dsimp only [List.set];refine ⟨_, rfl, _, _, rfl, rfl, v7 (a := 30) (by decide +kernel) fl (by decide), _, rfl, _, _, rfl, rfl, v7 (a := 30) (by decide +kernel) fl (by decide), _, _, rfl, rfl, v7 (zdv (a := 30) (by decide +kernel) fl) (b := 30) (by decide +kernel) (by decide), _, rfl, _, _, rfl, rfl, v7 (a := 30) (by decide +kernel) fl (by decide), _, rfl, _, _, rfl, rfl, v7 (a := 30) (by decide +kernel) fl (by decide), by show 4 <= sizeLine; decide, fun p hp => ?_⟩;obtain ⟨z, hz, ez⟩ := zhz (l := [("out b a " : Str) ++ Str.ofString (toString F), (("worth a -" : Str) ++ Str.ofString (toString F)) ++ (" 1" : Str), ("colours a " : Str) ++ Str.ofString (toString F), ("turn b a 0 1 " : Str) ++ Str.ofString (toString F)]) (i := cc % 4) (Jk _ (by decide)) (Jj _ (by decide));refine ⟨_, rfl, cc, 4, rfl, rfl, by show (0 : Int) < 4; decide, p, _, _, _, rfl, rfl, SqL.of zB, ez, q z _ ?_ (Same.new hp)⟩;simp only [Qy, Ju, or_false] at hz;rcases hz with rfl | rfl | rfl | rfl
  ·exact zDf F5 F6
  ·exact ztm F5 F6
  ·exact zyl F5 F6
  ·exact zyk F5 F6
end
open PySem.W (subIn kitOne)
structure zFv (K : W.Frag) (mg : Str -> Option Value) (c : Fin 10 -> Addr) (o : Fin 5 -> Addr) (Wc : Addr) (bW : List Value) : Prop where
 n0 : mg "NoText" = some (.ref (c 0))
 n1 : mg "NoWeb" = some (.ref (c 1))
 n2 : mg "TooMany" = some (.ref (c 2))
 n3 : mg "NoTie" = some (.ref (c 3))
 n4 : mg "NoSuch" = some (.ref (c 4))
 n5 : mg "NoPoint" = some (.ref (c 5))
 n6 : mg "NotApart" = some (.ref (c 6))
 n7 : mg "NoNumber" = some (.ref (c 7))
 n8 : mg "NoRow" = some (.ref (c 8))
 n9 : mg "NoName" = some (.ref (c 9))
 o0 : mg "NoOrder" = some (.ref (o 0))
 o1 : mg "NoPlaces" = some (.ref (o 1))
 o2 : mg "NoDrawing" = some (.ref (o 2))
 o3 : mg "NotJoined" = some (.ref (o 3))
 o4 : mg "NotPlane" = some (.ref (o 4))
 hw : mg "WebError" = some (.ref Wc)
 ve : mg "ValueError" = none
 xw : vH K Wc bW = true
 kx : ∀ i, zsg K (c i) = true
 sb : ∀ i, subIn K (.ref (c i)) (.ref Wc) = some true
 yv : ∀ i, kitOne K (.ref (c i)) (.type "ValueError") = some true
 no : ∀ i j, kitOne K (.ref (c i)) (.ref (c j)) = some (decide (i = j))
 nn : ∀ i j, kitOne K (.ref (c i)) (.ref (o j)) = some false
theorem zAz : bootBuiltins "ValueError" = some (.type "ValueError") := by first | rfl | decide +kernel
def zsd (i : Fin 10) : List V := [.bl (decide (i = 0)), .bl (decide (i = 1)), .bl (decide (i = 2)), .bl (decide (i = 3)), .bl (decide (i = 4)), .bl (decide (i = 5)), .bl (decide (i = 6)), .bl (decide (i = 7)), .bl (decide (i = 8)), .bl (decide (i = 9)), .bl false, .bl false, .bl false, .bl false, .bl false, .bl false]
def zFp (x : Str) : List V := words16.map fun y => .bl (decide (V.str y = V.str x))
theorem zld : ∀ i : Fin 10, zFp (hU i) = zsd i := by decide +kernel
def zoh (c : Fin 10 -> Addr) : Sp := fun vs H Q _ => ∃ (ea : Addr) (i : Fin 10) (od : Option Addr), vs = [.ref ea] /\ H ea = some (zwu ea (c i) od) /\ ∀ l H', Same H H' -> H' l = some (.lst (zsd i)) -> Q (.ref l) H'
def zBl : Sp := fun vs H Q _ => ∃ x : Str, vs = [.str x] /\ ∀ l H', Same H H' -> H' l = some (.lst (zFp x)) -> Q (.ref l) H'
section
variable {P : Program} {w : World} {K : W.Frag} {mg : Str -> Option Value} {base : Heap} {c : Fin 10 -> Addr} {o : Fin 5 -> Addr} {Wc : Addr} {bW : List Value} {CD : Addr}
seal PSs PS PE PI PA PT PG
theorem scKinds : zR ["_law_e", "_law_one", "_law_two", "_law_three", "_law_four"] ["_law_e"] (zH zin) := ⟨rfl, rfl, rfl, by decide +kernel, rfl, by decide +kernel, by decide +kernel⟩
theorem zAp (T : Txt K mg) (X : zFv K mg c o Wc bW) (S : Src K mg "_law_kinds" zin ["_law_e"]) : zBd P w K mg base 1 "_law_kinds" ["_law_e"] (zoh c) := by
 refine S.defH scKinds (fun vs H Q E h => ?_) (fun f cdv A outer s H vs Q E hr h => ?_)
 ·obtain ⟨_, _, _, rfl, _⟩ := h; rfl
 ·obtain ⟨ea, i, od, rfl, he, q⟩ := h;refine ⟨_, zD (zU (i := 1) scKinds.nd rfl (Or.inl rfl) (yF (zA (zM (r := zba K) xM (by rfl) T.isi yY (zA (pv 0) (zA (yJ (v := .ref (c 0)) rfl X.n0 rfl) zC))) (zA (zM (r := zba K) xM (by rfl) T.isi yY (zA (pv 0) (zA (yJ (v := .ref (c 1)) rfl X.n1 rfl) zC))) (zA (zM (r := zba K) xM (by rfl) T.isi yY (zA (pv 0) (zA (yJ (v := .ref (c 2)) rfl X.n2 rfl) zC))) (zA (zM (r := zba K) xM (by rfl) T.isi yY (zA (pv 0) (zA (yJ (v := .ref (c 3)) rfl X.n3 rfl) zC))) zC))))))
   (zD (zU (i := 2) scKinds.nd rfl (Or.inl rfl) (yF (zA (zM (r := zba K) xM (by rfl) T.isi yY (zA (pv 0) (zA (yJ (v := .ref (c 4)) rfl X.n4 rfl) zC))) (zA (zM (r := zba K) xM (by rfl) T.isi yY (zA (pv 0) (zA (yJ (v := .ref (c 5)) rfl X.n5 rfl) zC))) (zA (zM (r := zba K) xM (by rfl) T.isi yY (zA (pv 0) (zA (yJ (v := .ref (c 6)) rfl X.n6 rfl) zC))) (zA (zM (r := zba K) xM (by rfl) T.isi yY (zA (pv 0) (zA (yJ (v := .ref (c 7)) rfl X.n7 rfl) zC))) zC))))))
   (zD (zU (i := 3) scKinds.nd rfl (Or.inl rfl) (yF (zA (zM (r := zba K) xM (by rfl) T.isi yY (zA (pv 0) (zA (yJ (v := .ref (c 8)) rfl X.n8 rfl) zC))) (zA (zM (r := zba K) xM (by rfl) T.isi yY (zA (pv 0) (zA (yJ (v := .ref (c 9)) rfl X.n9 rfl) zC))) (zA (zM (r := zba K) xM (by rfl) T.isi yY (zA (pv 0) (zA (yJ (v := .ref (o 0)) rfl X.o0 rfl) zC))) (zA (zM (r := zba K) xM (by rfl) T.isi yY (zA (pv 0) (zA (yJ (v := .ref (o 1)) rfl X.o1 rfl) zC))) zC))))))
   (zD (zU (i := 4) scKinds.nd rfl (Or.inl rfl) (yF (zA (zM (r := zba K) xM (by rfl) T.isi yY (zA (pv 0) (zA (yJ (v := .ref (o 2)) rfl X.o2 rfl) zC))) (zA (zM (r := zba K) xM (by rfl) T.isi yY (zA (pv 0) (zA (yJ (v := .ref (o 3)) rfl X.o3 rfl) zC))) (zA (zM (r := zba K) xM (by rfl) T.isi yY (zA (pv 0) (zA (yJ (v := .ref (o 4)) rfl X.o4 rfl) zC))) zC)))))
   (zG (zV (zN yZ (zN yZ (zN yZ (zN yZ (pv 1) (pv 2)) (pv 3)) (pv 4)) (yF (zA (zwk (zM (r := zba K) xM (by rfl) T.isi yY (zA (pv 0) (zA (gH (v := .ty "ValueError") rfl X.ve zAz rfl) zC)))) zC)))))))), ?_⟩
  have Z := L2.excK_of (X.kx i);refine ⟨_, rfl, ea, c i, od, _, _, _, rfl, rfl, he, Z, X.no i 0, _, rfl, ea, c i, od, _, _, _, rfl, rfl, he, Z, X.no i 1, _, rfl, ea, c i, od, _, _, _, rfl, rfl, he, Z, X.no i 2, _, rfl, ea, c i, od, _, _, _, rfl, rfl, he, Z, X.no i 3, by show 4 <= sizeLine; decide, fun p1 h1 => ?_⟩;have s1 := Same.new (o := HO.lst [.bl (decide (i = 0)), .bl (decide (i = 1)), .bl (decide (i = 2)), .bl (decide (i = 3))]) h1;have l1 : (upd H p1 (HO.lst [.bl (decide (i = 0)), .bl (decide (i = 1)), .bl (decide (i = 2)), .bl (decide (i = 3))])) p1 = some (.lst [.bl (decide (i = 0)), .bl (decide (i = 1)), .bl (decide (i = 2)), .bl (decide (i = 3))]) := zB
  replace he := (Same.new (o := HO.lst [.bl (decide (i = 0)), .bl (decide (i = 1)), .bl (decide (i = 2)), .bl (decide (i = 3))]) h1) _ _ he
  generalize upd H p1 (HO.lst [.bl (decide (i = 0)), .bl (decide (i = 1)), .bl (decide (i = 2)), .bl (decide (i = 3))]) = H1 at s1 he l1 ⊢;refine ⟨_, rfl, ea, c i, od, _, _, _, rfl, rfl, he, Z, X.no i 4, _, rfl, ea, c i, od, _, _, _, rfl, rfl, he, Z, X.no i 5, _, rfl, ea, c i, od, _, _, _, rfl, rfl, he, Z, X.no i 6, _, rfl, ea, c i, od, _, _, _, rfl, rfl, he, Z, X.no i 7, by show 4 <= sizeLine; decide, fun p2 h2 => ?_⟩;have s2 := s1.trans (Same.new (o := HO.lst [.bl (decide (i = 4)), .bl (decide (i = 5)), .bl (decide (i = 6)), .bl (decide (i = 7))]) h2);have l2 : (upd H1 p2 (HO.lst [.bl (decide (i = 4)), .bl (decide (i = 5)), .bl (decide (i = 6)), .bl (decide (i = 7))])) p2 = some (.lst [.bl (decide (i = 4)), .bl (decide (i = 5)), .bl (decide (i = 6)), .bl (decide (i = 7))]) := zB
  replace l1 := (Same.new (o := HO.lst [.bl (decide (i = 4)), .bl (decide (i = 5)), .bl (decide (i = 6)), .bl (decide (i = 7))]) h2) _ _ l1
  replace he := (Same.new (o := HO.lst [.bl (decide (i = 4)), .bl (decide (i = 5)), .bl (decide (i = 6)), .bl (decide (i = 7))]) h2) _ _ he
  generalize upd H1 p2 (HO.lst [.bl (decide (i = 4)), .bl (decide (i = 5)), .bl (decide (i = 6)), .bl (decide (i = 7))]) = H2 at s2 he l1 l2 ⊢;refine ⟨_, rfl, ea, c i, od, _, _, _, rfl, rfl, he, Z, X.no i 8, _, rfl, ea, c i, od, _, _, _, rfl, rfl, he, Z, X.no i 9, _, rfl, ea, c i, od, _, _, _, rfl, rfl, he, Z, X.nn i 0, _, rfl, ea, c i, od, _, _, _, rfl, rfl, he, Z, X.nn i 1, by show 4 <= sizeLine; decide, fun p3 h3 => ?_⟩;have s3 := s2.trans (Same.new (o := HO.lst [.bl (decide (i = 8)), .bl (decide (i = 9)), .bl false, .bl false]) h3);have l3 : (upd H2 p3 (HO.lst [.bl (decide (i = 8)), .bl (decide (i = 9)), .bl false, .bl false])) p3 = some (.lst [.bl (decide (i = 8)), .bl (decide (i = 9)), .bl false, .bl false]) := zB
  replace l1 := (Same.new (o := HO.lst [.bl (decide (i = 8)), .bl (decide (i = 9)), .bl false, .bl false]) h3) _ _ l1
  replace l2 := (Same.new (o := HO.lst [.bl (decide (i = 8)), .bl (decide (i = 9)), .bl false, .bl false]) h3) _ _ l2
  replace he := (Same.new (o := HO.lst [.bl (decide (i = 8)), .bl (decide (i = 9)), .bl false, .bl false]) h3) _ _ he
  generalize upd H2 p3 (HO.lst [.bl (decide (i = 8)), .bl (decide (i = 9)), .bl false, .bl false]) = H3 at s3 he l1 l2 l3 ⊢;refine ⟨_, rfl, ea, c i, od, _, _, _, rfl, rfl, he, Z, X.nn i 2, _, rfl, ea, c i, od, _, _, _, rfl, rfl, he, Z, X.nn i 3, _, rfl, ea, c i, od, _, _, _, rfl, rfl, he, Z, X.nn i 4, by show 3 <= sizeLine; decide, fun p4 h4 => ?_⟩;have s4 := s3.trans (Same.new (o := HO.lst [.bl false, .bl false, .bl false]) h4);have l4 : (upd H3 p4 (HO.lst [.bl false, .bl false, .bl false])) p4 = some (.lst [.bl false, .bl false, .bl false]) := zB
  replace l1 := (Same.new (o := HO.lst [.bl false, .bl false, .bl false]) h4) _ _ l1
  replace l2 := (Same.new (o := HO.lst [.bl false, .bl false, .bl false]) h4) _ _ l2
  replace l3 := (Same.new (o := HO.lst [.bl false, .bl false, .bl false]) h4) _ _ l3
  replace he := (Same.new (o := HO.lst [.bl false, .bl false, .bl false]) h4) _ _ he
  generalize upd H3 p4 (HO.lst [.bl false, .bl false, .bl false]) = H4 at s4 he l1 l2 l3 l4 ⊢;dsimp only [List.set];refine ⟨_, rfl, _, rfl, p1, p2, _, _, rfl, rfl, l1, l2, by show 8 <= sizeLine; decide, fun a1 b1 => ?_⟩;have s5 := Same.new (o := HO.lst ([.bl (decide (i = 0)), .bl (decide (i = 1)), .bl (decide (i = 2)), .bl (decide (i = 3))] ++ [.bl (decide (i = 4)), .bl (decide (i = 5)), .bl (decide (i = 6)), .bl (decide (i = 7))])) b1;refine ⟨_, rfl, a1, p3, _, _, rfl, rfl, zB, s5 _ _ l3, by show 12 <= sizeLine; decide, fun a2 b2 => ?_⟩;refine ⟨_, rfl, a2, p4, _, _, rfl, rfl, zB, (s5.trans (Same.new b2)) _ _ l4, by show 15 <= sizeLine; decide, fun a3 b3 => ?_⟩;refine ⟨_, rfl, ea, c i, od, _, _, _, rfl, rfl, ((s5.trans (Same.new b2)).trans (Same.new b3)) _ _ he, Z, X.yv i, _, rfl, by show 1 <= sizeLine; decide, fun a4 b4 => ?_⟩;refine ⟨a3, a4, _, _, rfl, rfl, by rw [zS (yD zB b4)]; exact zB, zB, by show 16 <= sizeLine; decide, fun a5 b5 => ?_⟩;exact q a5 _ (s4.trans (((s5.trans (Same.new b2)).trans (Same.new b3)).trans ((Same.new b4).trans (Same.new b5)))) zB
theorem scDue : zR ["_law_word", "_law_some"] ["_law_word"] (zH zBr) := ⟨rfl, rfl, rfl, by decide +kernel, rfl, by decide +kernel, by decide +kernel⟩
theorem zHb : (["_law_one", "_law_word"] : List Str).Nodup := by decide +kernel
def wa12 : List Str := ["text", "web", "many", "tie", "such", "point", "apart", "number", "row", "name", "order", "places"]
def wb4 : List Str := ["drawing", "joined", "plane", "else"]
theorem zHl (S : Src K mg "_law_due" zBr ["_law_word"]) : Def P w K mg base 1 "_law_due" ["_law_word"] zBl := by
 refine S.def scDue (fun vs H Q E h => ?_) (fun f cdv A outer s H vs Q E hr h => ?_)
 ·obtain ⟨_, rfl, _⟩ := h; rfl
 ·obtain ⟨x, rfl, q⟩ := h;refine ⟨_, zD (zU (i := 1) scDue.nd rfl (Or.inl rfl) (yF (pas wa12 (zA zE (zA zE (zA zE (zA zE (zA zE (zA zE (zA zE (zA zE (zA zE (zA zE (zA zE (zA zE zC)))))))))))))))
   (zD (zU (i := 1) scDue.nd rfl (Or.inl rfl) (zN yZ (pv 1) (yF (pas wb4 (zA zE (zA zE (zA zE (zA zE zC))))))))
   (zG (zV (wL (N' := ["_law_one", "_law_word"]) (fr := [none, some 0]) (yH (by rfl)) rfl (wK K .l (pv 1)) (fun _ _ _ _ => yE (i := 0) zHb rfl (Or.inl rfl) (Or.inr rfl)) (fun _ _ _ _ => yX) (fun _ _ _ _ => vS wA (pv 0) (pv 1) (yA _)))))), ?_⟩
  refine ⟨by show 12 <= sizeLine; decide, fun p1 h1 => ?_⟩;have s1 := Same.new (o := HO.lst (wa12.map V.str)) h1;have l1 : (upd H p1 (HO.lst (wa12.map V.str))) p1 = some (.lst (wa12.map V.str)) := zB;generalize upd H p1 (HO.lst (wa12.map V.str)) = H1 at s1 l1 ⊢;refine ⟨_, rfl, by show 4 <= sizeLine; decide, fun q2 g2 => ?_⟩;have t2 := Same.new (o := HO.lst (wb4.map V.str)) g2;have m2 : (upd H1 q2 (HO.lst (wb4.map V.str))) q2 = some (.lst (wb4.map V.str)) := zB;generalize upd H1 q2 (HO.lst (wb4.map V.str)) = H1' at t2 m2 ⊢;refine ⟨p1, q2, wa12.map V.str, wb4.map V.str, rfl, rfl, t2 _ _ l1, m2, by show 16 <= sizeLine; decide, fun p2 h2 => ?_⟩;have s2 := (s1.trans t2).trans (Same.new (o := HO.lst (wa12.map V.str ++ wb4.map V.str)) h2);have l2 : (upd H1' p2 (HO.lst (wa12.map V.str ++ wb4.map V.str))) p2 = some (.lst (words16.map V.str)) := zB;generalize upd H1' p2 (HO.lst (wa12.map V.str ++ wb4.map V.str)) = H2 at s2 l2 ⊢;dsimp only [List.set];refine ⟨_, rfl, p2, rfl, ⟨_, SqL.of l2⟩, wY (k := .l) (a := p2) (xs := words16.map V.str) (fun σ => ∃ v, σ = [v, some (.str x)]) (fun j ys H' => H' = H2 /\ ys = (words16.take j).map fun y => V.bl (decide (V.str y = V.str x))) ⟨_, rfl⟩ ⟨rfl, rfl⟩ (by show 16 < sizeLine; decide) (fun i ys H' _ z => by rw [z.1]; exact SqL.of l2) ?_ ?_⟩
  ·rintro j v ys σ H' N hx ⟨u, rfl⟩ ⟨rfl, rfl⟩ hN;rw [Q8] at hx;obtain ⟨y, ey, rfl⟩ := Option.map_eq_some_iff.mp hx;dsimp only [xH, List.set];refine zaw ⟨_, rfl, _, rfl, rfl, ?_⟩;refine hN _ _ _ ⟨_, rfl⟩ ⟨rfl, ?_⟩ (by simp);rw [zW ey, Qp];rfl
  ·rintro ys H' ⟨rfl, rfl⟩ r hr';refine q r _ (s2.trans (Same.new hr')) ?_;rw [zB];rfl
end
def zHx (K : W.Frag) : Sp := fun vs H Q _ => ∃ (a : Addr) (ns : List Int) (k : Nat), vs = [.ref a, .int k] /\ SqL K H a (ns.map V.int) /\ Q (.int (ns.getD k 0)) H
def zIi (K : W.Frag) (H : Hp) (x : Str) (v : V) : Prop := (x = "row" /\ Plain K H v /\ ∀ z, v ≠ .str z) \/ ∃ z, v = .str z /\ zbh x z
def zBi (K : W.Frag) : Sp := fun vs H Q _ => ∃ cc : Int, vs = [.int cc] /\ ∀ t x v H', Same H H' -> H' t = some (.tup [.str x, v]) -> zIi K H' x v -> Q (.ref t) H'
def zbm (K : W.Frag) (CD : Addr) : Sp := fun vs H Q _ => ∃ (a d : Addr) (ks : qY) (x : Str) (v : V), vs = [.ref a, .str x, v] /\ DeskAt CD H a d ks /\
 ((x = "row" /\ Plain K H v /\ ∀ z, v ≠ .str z) \/ ∃ l i, v = wI l /\ Asc l /\ x = hU i /\ wT ks l = .exc i) /\ ∀ H', Same H H' -> Q (.bl true) H'
theorem zfz {K : W.Frag} {H : Hp} {xs ys : List V} (e : xs = ys) (f : xs.all k6 = true) : ∀ (i : Nat) (x y : V), xs[i]? = some x -> ys[i]? = some y -> SameD K H 0 x y := by
 subst e;intro i x y hx hy;rw [hx] at hy;cases hy
 exact .flat (Jy.mp f x (Q6 hx))
section
variable {P : Program} {w : World} {K : W.Frag} {mg : Str -> Option Value} {base : Heap} {c : Fin 10 -> Addr} {o : Fin 5 -> Addr} {Wc : Addr} {bW : List Value} {CD : Addr}
seal PSs PS PE PI PA PT PG
theorem scRefused : zR ["_law_desk", "_law_word", "_law_row_here", "_law_told", "_law_e"] ["_law_desk", "_law_word", "_law_row_here"] (zH zal) := ⟨rfl, rfl, rfl, by decide +kernel, rfl, by decide +kernel, by decide +kernel⟩
theorem zrf {fS : Addr} {fdS : FuncData} (X : zFv K mg c o Wc bW) (D : DC K mg CD) (S : Src K mg "_law_refused" zal ["_law_desk", "_law_word", "_law_row_here"]) (mS : znd K CD "say" fS) (OS : v9 P w K mg base (CXq P w) 7 fS fdS ["self", "row"] (kR K CD c)) (bS : Binds K fdS ["self", "row"] []) (DK : zBd P w K mg base 1 "_law_kinds" ["_law_e"] (zoh c)) (DD : Def P w K mg base 1 "_law_due" ["_law_word"] zBl) :
  Def P w K mg base 8 "_law_refused" ["_law_desk", "_law_word", "_law_row_here"] (zbm K CD) := by
 refine S.def scRefused (fun vs H Q E h => ?_) (fun f cdv A outer s H vs Q E hr h => ?_)
 ·obtain ⟨_, _, _, _, _, rfl, _⟩ := h; rfl
 ·obtain ⟨a, d, ks, x, v, rfl, DA, alt, q⟩ := h;have hr1 : Room 1 _ := hr.mono (by decide);refine ⟨_, zD (zU (i := 3) scRefused.nd rfl (Or.inl rfl) (yF zC))
   (zD (zys (i := 4) rfl X.hw X.xw scRefused.nd rfl rfl (zto (ztp (pv 0) D.cl mS OS hr bS (zA (pv 2) zC) (fun _ _ z => z)))
    (fun v => zG (zU (i := 3) scRefused.nd rfl (Or.inl rfl) (zyy DK (Room.marked (hr.mono (by decide))) rfl (zA (pv 4) zC)))) rfl rfl)
   (zG (zV (vS (zzf K (znw hr)) (pv 3) (yC DD hr1 rfl (zA (pv 1) zC)) (yA _))))), ?_⟩
  refine ⟨Jw _, fun p hp => ?_⟩;have s1 := Same.new (o := HO.lst []) hp;generalize upd H p (.lst []) = H1 at s1 ⊢;refine wS fun M0 hM0 => hM0 _ _ ?_;clear hM0 M0;refine wS fun M hM => ?_;have exc : ∀ (i : Fin 10) (od : Option Addr) (H2 : Hp), x = hU i -> Same H H2 -> ∀ ea, H2 ea = none -> ∀ l H3, Same (upd H2 ea (zwu ea (c i) od)) H3 -> H3 l = some (.lst (zsd i)) -> M [some (.ref a), some (.str x), some v, some (.ref l), none] H3 := fun i od H2 ex s2 ea hea l H3 s3 hl => by
   refine hM _ _ ?_;have s03 := (s2.trans (Same.new hea)).trans s3;refine ⟨_, rfl, _, rfl, x, rfl, fun l2 H4 s4 hl2 => ?_⟩;refine ⟨l, l2, zsd i, zFp x, 0, rfl, rfl, .inr ⟨SqL.of (s4 _ _ hl), SqL.of hl2⟩, by rw [ex, zld], by decide, zfz (by rw [ex, zld]) rfl, q _ (s03.trans s4)⟩
  clear hM;have DA1 := DA.same s1;obtain ⟨dx, kvs, ha, _, _⟩ := DA1.ex;refine ⟨_, rfl, a, dx, fW d, rfl, ha, zja d, _, rfl, a, d, ks, v, rfl, DA1, ?_⟩;rcases alt with ⟨rfl, pv', nv⟩ | ⟨l, i, rfl, al, ex, so⟩
  ·refine .inl ⟨pv'.same s1, nv, fun od H2 s2 => ⟨c 8, rfl, X.sb 8, fun ea hea => ⟨_, rfl, ea, 8, od, rfl, zB, fun l H3 s3 hl => ?_⟩⟩⟩;exact exc 8 od H2 rfl (s1.trans s2) ea hea l H3 s3 hl
  ·refine .inr ⟨l, rfl, al, ?_⟩;rw [so];refine fun od H2 s2 => ⟨c i, rfl, X.sb i, fun ea hea => ⟨_, rfl, ea, i, od, rfl, zB, fun l H3 s3 hl => ?_⟩⟩;exact exc i od H2 ex (s1.trans s2) ea hea l H3 s3 hl
theorem zGl : zR ["_law_cell"] ["_law_cell"] (zH zBp) := ⟨rfl, rfl, rfl, by decide +kernel, rfl, by decide +kernel, by decide +kernel⟩
theorem zHj (S : Src K mg "_law_row" zBp ["_law_cell"]) (D1 : Def P w K mg base 1 "_law_no_row" ["_law_cell"] (zid zff)) (D2 : Def P w K mg base 1 "_law_long_row" ["_law_cell"] zwb) (D3 : Def P w K mg base 1 "_law_named" ["_law_cell"] (zid namedRows)) (D4 : Def P w K mg base 1 "_law_other" ["_law_cell"] zoe) : Def P w K mg base 2 "_law_row" ["_law_cell"] (zBi K) := by
 refine S.def zGl (fun vs H Q E h => ?_) (fun f cdv A outer s H vs Q E hr h => ?_)
 ·obtain ⟨_, rfl, _⟩ := h; rfl
 ·obtain ⟨cc, rfl, q⟩ := h;refine ⟨_, zD (yL (zP zxh (zN w5 (pv 0) zF) zF (yA _)) (zG (zV (wH (zA zE (zA (yC D1 hr rfl (zA (zN qG (pv 0) zF) zC)) zC))))) zQ)
   (zD (yL (zP wA (zN w5 (pv 0) zF) zF (yA _)) (zG (zV (wH (zA zE (zA (yC D2 hr rfl (zA (zN qG (pv 0) zF) zC)) zC))))) zQ)
   (zD (yL (zP wA (zN w5 (pv 0) zF) zF (yA _)) (zG (zV (wH (zA zE (zA (zT (zO K) (yF (zA zDp (zA zF (zA (wH (zA zE zC)) (zA (yF (zA zE zC)) (zA gT zC)))))) (zN w5 (zN qG (pv 0) zF) zF) (fun _ _ => rfl)) zC))))) zQ)
   (zD (yL (zP wA (zN w5 (pv 0) zF) zF (yA _)) (zG (zV (wH (zA zE (zA (yC D3 hr rfl (zA (zN qG (pv 0) zF) zC)) zC))))) zQ)
   (zG (zV (yC D4 hr rfl (zA (zN qG (pv 0) zF) zC))))))), ?_⟩
  have d8 : (0 : Int) < 8 := by decide
  have f8 : (0 : Int) < 8 /\ (8 : Int) < 1073741824 := ⟨by decide, by decide⟩;refine ⟨_, rfl, _, _, rfl, rfl, d8, _, _, rfl, rfl, _, rfl, zfi (fun _ => ?_) fun _ => ?_⟩
  ·refine ⟨_, rfl, _, _, rfl, rfl, f8, _, rfl, fun z hz H1 s1 => ⟨by show 2 <= sizeLine; decide, fun t ht => ?_⟩⟩;exact q t "row" (.str z) _ (s1.trans (Same.new ht)) zB (.inr ⟨z, rfl, zGz hz⟩)
  ·refine ⟨_, rfl, _, _, rfl, rfl, d8, rfl, _, rfl, zfi (fun _ => ?_) fun _ => ?_⟩
   ·refine ⟨_, rfl, _, _, rfl, rfl, f8, _, rfl, fun z H1 rz s1 => ⟨by show 2 <= sizeLine; decide, fun t ht => ?_⟩⟩;exact q t "row" (.str z) _ (s1.trans (Same.new ht)) zB (.inr ⟨z, rfl, rz⟩)
   ·refine ⟨_, rfl, _, _, rfl, rfl, d8, rfl, _, rfl, zfi (fun _ => ?_) fun _ => ?_⟩
    ·refine ⟨by show 1 <= sizeLine; decide, fun t1 h1 => ⟨by show 1 <= sizeLine; decide, fun l1 g1 => ⟨by show 5 <= sizeLine; decide, fun p hp => ?_⟩⟩⟩;have s1 := Same.new (o := HO.tup [V.str "show a"]) h1;have s2 := Same.new (o := HO.lst [V.str "show a"]) g1;have a1 := s2 _ _ (show (upd H t1 (.tup [V.str "show a"])) t1 = _ from zB);have a2 : (upd (upd H t1 (.tup [V.str "show a"])) l1 (.lst [V.str "show a"])) l1 = some (.lst [V.str "show a"]) := zB;have s12 := s1.trans s2;generalize upd (upd H t1 (.tup [V.str "show a"])) l1 (.lst [V.str "show a"]) = H2 at s12 a1 a2 hp ⊢;clear s1 s2;have s3 := Same.new (o := HO.lst [.non, .int 7, .ref t1, .ref l1, .bl true]) hp;have fin : ∀ v, Plain K (upd H2 p (.lst [.non, .int 7, .ref t1, .ref l1, .bl true])) v -> (∀ z, v ≠ .str z) -> ∀ t, (upd H2 p (.lst [.non, .int 7, .ref t1, .ref l1, .bl true])) t = none -> Q (.ref t) (upd (upd H2 p (.lst [.non, .int 7, .ref t1, .ref l1, .bl true])) t (.tup [.str "row", v])) := fun v pv' nv t ht => q t "row" v _ ((s12.trans s3).trans (Same.new ht)) zB (.inl ⟨rfl, pv'.same (Same.new ht), nv⟩);have m0 := Jk (cc / 8) (show (5 : Int) ≠ 0 by decide);have m5 := Jj (cc / 8) (show (0 : Int) < 5 by decide);have five : cc / 8 % 5 = 0 \/ cc / 8 % 5 = 1 \/ cc / 8 % 5 = 2 \/ cc / 8 % 5 = 3 \/ cc / 8 % 5 = 4 := by lia
     rcases five with e | e | e | e | e
     ·exact ⟨_, rfl, _, _, rfl, rfl, f8, _, _, rfl, rfl, by show (0 : Int) < 5; decide, p, [.non, .int 7, .ref t1, .ref l1, .bl true], cc / 8 % 5, .non, rfl, rfl, SqL.of zB, by rw [e]; exact zJ (j := 0) rfl, by show 2 <= sizeLine; decide, fun t ht => fin _ ⟨_, .non, fun _ z => nomatch z⟩ (fun _ z => nomatch z) t ht⟩
     ·exact ⟨_, rfl, _, _, rfl, rfl, f8, _, _, rfl, rfl, by show (0 : Int) < 5; decide, p, [.non, .int 7, .ref t1, .ref l1, .bl true], cc / 8 % 5, .int 7, rfl, rfl, SqL.of zB, by rw [e]; exact zJ (j := 1) rfl, by show 2 <= sizeLine; decide, fun t ht => fin _ (vG K _ 7) (fun _ z => nomatch z) t ht⟩
     ·exact ⟨_, rfl, _, _, rfl, rfl, f8, _, _, rfl, rfl, by show (0 : Int) < 5; decide, p, [.non, .int 7, .ref t1, .ref l1, .bl true], cc / 8 % 5, .ref t1, rfl, rfl, SqL.of zB, by rw [e]; exact zJ (j := 2) rfl, by show 2 <= sizeLine; decide, fun t ht => fin _ ⟨_, .tup (s3 _ _ a1), fun _ z => nomatch z⟩ (fun _ z => nomatch z) t ht⟩
     ·exact ⟨_, rfl, _, _, rfl, rfl, f8, _, _, rfl, rfl, by show (0 : Int) < 5; decide, p, [.non, .int 7, .ref t1, .ref l1, .bl true], cc / 8 % 5, .ref l1, rfl, rfl, SqL.of zB, by rw [e]; exact zJ (j := 3) rfl, by show 2 <= sizeLine; decide, fun t ht => fin _ ⟨_, .lst (s3 _ _ a2), fun _ z => nomatch z⟩ (fun _ z => nomatch z) t ht⟩
     ·exact ⟨_, rfl, _, _, rfl, rfl, f8, _, _, rfl, rfl, by show (0 : Int) < 5; decide, p, [.non, .int 7, .ref t1, .ref l1, .bl true], cc / 8 % 5, .bl true, rfl, rfl, SqL.of zB, by rw [e]; exact zJ (j := 4) rfl, by show 2 <= sizeLine; decide, fun t ht => fin _ ⟨_, .bl true, fun _ z => nomatch z⟩ (fun _ z => nomatch z) t ht⟩
    ·refine ⟨_, rfl, _, _, rfl, rfl, d8, rfl, _, rfl, zfi (fun _ => ?_) fun _ => ?_⟩
     ·refine ⟨_, rfl, _, _, rfl, rfl, f8, _, rfl, fun z hz H1 s1 => ⟨by show 2 <= sizeLine; decide, fun t ht => ?_⟩⟩;exact q t "name" (.str z) _ (s1.trans (Same.new ht)) zB (.inr ⟨z, rfl, zkq hz⟩)
     ·exact ⟨_, rfl, _, _, rfl, rfl, f8, _, rfl, fun t x z H1 rz s1 ht => q t x (.str z) H1 s1 ht (.inr ⟨z, rfl, rz⟩)⟩
theorem zIt : zR ["_law_script", "_law_k"] ["_law_script", "_law_k"] (zH sAt) := ⟨rfl, rfl, rfl, by decide +kernel, rfl, by decide +kernel, by decide +kernel⟩
theorem zJg (T : Txt K mg) (S : Src K mg "_law_at" sAt ["_law_script", "_law_k"]) : Def P w K mg base 1 "_law_at" ["_law_script", "_law_k"] (zHx K) := by
 refine S.def zIt (fun vs H Q E h => ?_) (fun f cdv A outer s H vs Q E hr h => ?_)
 ·obtain ⟨_, _, _, rfl, _⟩ := h; rfl
 ·obtain ⟨a, ns, k, rfl, hq, q⟩ := h;refine ⟨_, zD (yL (zP zxh (pv 1) (zM (xT K) (by rfl) T.len PySem.boot_len (zA (pv 0) zC)) (yA _)) (zG (zV (zT (zO K) (pv 0) (pv 1) (fun _ _ => rfl)))) zQ) (zG (zV zF)), ?_⟩;refine ⟨_, rfl, _, rfl, a, _, rfl, .inl hq, _, _, rfl, rfl, _, rfl, ?_⟩;rw [Qj];by_cases h : k < ns.length
  ·rw [Qb (show (k : Int) < (ns.length : Int) by lia)];refine xK ⟨_, rfl, _, rfl, a, _, _, .int (ns.getD k 0), rfl, rfl, hq, zJ ?_, q⟩;rw [Q8, Wj];simp [h]
  ·rw [Qv (show ¬ (k : Int) < (ns.length : Int) by lia)];refine yR ?_;rw [Wj, List.getElem?_eq_none (by lia)] at q;exact q
end
theorem zGy {a b : Int} (a0 : 0 <= a) (a9 : a <= 9) (b0 : 0 <= b) (b9 : b <= 9) : (toString a : Str).length + ("-" : Str).length <= sizeLine /\ ((toString a : Str) ++ ("-" : Str)).length + (toString b : Str).length <= sizeLine /\ (((toString a : Str) ++ ("-" : Str)) ++ (toString b : Str)) = mkS (vN (a, b)) := by
 have e : (toString a : Str) = mkS [dg a] := hV a0 a9;have e' : (toString b : Str) = mkS [dg b] := hV b0 b9;rw [e, e', zas];simp only [zcu, yP];exact ⟨xO (by simp), xO (by simp), by simp [vN]⟩
theorem zDq {n : Int} (h0 : 0 <= n) (h9 : n <= 9) : (toString n : Str).length + (":" : Str).length <= sizeLine /\ ((toString n : Str) ++ (":" : Str)) = mkS [dg n, 58] := by
 have e : (toString n : Str) = mkS [dg n] := hV h0 h9;rw [e, zbq];simp only [zcu, yP];exact ⟨xO (by simp), by simp⟩
theorem zmn (h : List Nat) (ts : List (List Nat)) : Txt.join (mkS [32]) ((h :: ts).map mkS) = mkS (h ++ ts.flatMap fun t => 32 :: t) := by
 apply zhe;rw [zdx, yK];show (mkS h).cps.toList ++ (ts.map mkS).flatMap (fun t => (mkS [32]).cps.toList ++ t.cps.toList) = _;rw [List.flatMap_map];simp only [yK];rfl
theorem zbv : bootBuiltins "sum" = some (.builtin "sum") := by first | rfl | decide +kernel
def gA (n : Int) (qs : List (Int × Int)) : List V := ([dg n, 58] :: qs.map vN).map fun l => V.str (mkS l)
theorem zjd (n : Int) (qs : List (Int × Int)) (p : Int × Int) : gA n (qs ++ [p]) = gA n qs ++ [.str (mkS (vN p))] := by
 unfold gA;simp
structure WOK (n : Int) (ps : List (Int × Int)) : Prop where
 n2 : 2 <= n
 n5 : n <= 5
 hb : ∀ p ∈ ps, InN n p
 nm : ∀ p ∈ ps, p.1 <= p.2
 p1 : 1 <= ps.length
 p5 : ps.length <= 5
def zwe (K : W.Frag) : Sp := fun vs H Q _ => ∃ (l : Addr) (ns : List Int), vs = [.ref l] /\ H l = some (.lst (ns.map V.int)) /\ ∀ n ps H', WOK n ps -> Same H H' -> Q (wI (vP n ps)) H'
section
variable {P : Program} {w : World} {K : W.Frag} {mg : Str -> Option Value} {base : Heap}
theorem scLWeb : zR ["_law_cells", "_law_points", "_law_words", "_law_k", "_law_number", "_law_a", "_law_b"] ["_law_cells"] (zH zrz) := ⟨rfl, rfl, rfl, by decide +kernel, rfl, by decide +kernel, by decide +kernel⟩
theorem zEp (T : Txt K mg) (S : Src K mg "_law_web" zrz ["_law_cells"]) : Def P w K mg base 1 "_law_web" ["_law_cells"] (zwe K) := by
 refine S.def scLWeb (fun vs H Q E h => ?_) (fun f cdv A outer s H vs Q E hr h => ?_)
 ·obtain ⟨_, _, rfl, _⟩ := h; rfl
 ·obtain ⟨l, ns, rfl, hl, q⟩ := h;refine ⟨_, zD (zU (i := 1) scLWeb.nd rfl (Or.inl rfl) (zN w8 zF (zN w5 (zM (zev rfl) (by rfl) T.sum zbv (zA (wP (wX K) (pv 0) qF (wJ zF)) zC)) zF)))
   (zD (zU (i := 2) scLWeb.nd rfl (Or.inl rfl) (yF (zA (zN xA (yG wE rfl T.str w4 (zA (pv 1) zC)) zE) zC)))
   (zD (zaa PassesOwn.never rfl (qC rfl T.range (zA (zN w8 zF (zN w5 (zM (zev rfl) (by rfl) T.sum zbv (zA (wP (wX K) (pv 0) (wJ zF) (wJ zF)) zC)) zF)) zC)) (yE (i := 3) scLWeb.nd rfl (Or.inl rfl))
    (zD (zU (i := 4) scLWeb.nd rfl (Or.inl rfl) (zN w5 (zM (zev rfl) (by rfl) T.sum zbv (zA (wP (wX K) (pv 0) (wJ (zN w8 zF (pv 3))) (wJ (zN w8 zF (pv 3)))) zC)) zF))
    (zD (zU (i := 4) scLWeb.nd rfl (Or.inl rfl) (zN w5 (zN w8 (zN w8 (zN w8 (zN zwl (pv 4) (pv 4)) (zN zwl zF (pv 4))) (pv 3)) zF) zF))
    (zD (zU (i := 5) scLWeb.nd rfl (Or.inl rfl) (zN w5 (zN qG (pv 4) zF) (pv 1)))
    (zD (zU (i := 6) scLWeb.nd rfl (Or.inl rfl) (zN w5 (zN qG (pv 4) zF) (pv 1)))
    (zG (xI (kS PySem.F.plainAttrs_list PySem.F.slot_list_append PySem.F.type_list_append kW (pv 2) (zA (zN xA (zN xA (yG wE rfl T.str w4 (zA (zM (zrn rfl) (by rfl) T.min zrq (zA (pv 5) (zA (pv 6) zC))) zC)) zE) (yG wE rfl T.str w4 (zA (zM (zgm rfl) (by rfl) T.max zbw (zA (pv 5) (zA (pv 6) zC))) zC))) zC)))))))))
   (zG (zV (kS PySem.F.plainAttrs_str PySem.F.slot_str_join PySem.F.type_str_join zou zE (zA (pv 2) zC)))))), ?_⟩
  have c1 := zbe ns none (some 1);obtain ⟨ms, ec, _⟩ := c1;refine ⟨_, rfl, _, rfl, l, _, rfl, SqL.of hl, fun r hr' => ?_⟩;rw [ec];have s1 := Same.new (o := HO.lst (ms.map V.int)) hr';have l1 : (upd H r (HO.lst (ms.map V.int))) r = some (.lst (ms.map V.int)) := zB;generalize upd H r (HO.lst (ms.map V.int)) = H1 at s1 l1 ⊢;refine ⟨r, ms, rfl, SqL.of l1, fun x1 => ⟨_, _, rfl, rfl, by show (0 : Int) < 4; decide, _, _, rfl, rfl, ?_⟩⟩;have m0 := Jk x1 (show (4 : Int) ≠ 0 by decide);have m4 := Jj x1 (show (0 : Int) < 4 by decide);obtain ⟨n, en⟩ : ∃ n : Int, n = 2 + x1 % 4 := ⟨_, rfl⟩;dsimp only [xH, List.set];rw [<- en];have n2 : 2 <= n := by lia
  have n5 : n <= 5 := by lia
  clear en m0 m4;obtain ⟨f1, f2⟩ := zDq (n := n) (by lia) (by lia);refine ⟨_, rfl, n, rfl, zae (by lia) (by lia), _, _, rfl, rfl, f1, by show 1 <= sizeLine; decide, fun p hp => ?_⟩;rw [f2];have pH : H p = none := xP s1 hp;have s2 := s1.trans (Same.new (o := HO.lst [V.str (mkS [dg n, 58])]) hp);have hp1 : (upd H1 p (HO.lst [V.str (mkS [dg n, 58])])) p = some (.lst (gA n [])) := zB;generalize upd H1 p (HO.lst [V.str (mkS [dg n, 58])]) = H2 at s2 hp1 ⊢;dsimp only [List.set];obtain ⟨ms2, ec2, _⟩ := zbe ns (some 1) (some 2);refine ⟨_, rfl, _, rfl, _, rfl, l, _, rfl, SqL.of (s2 _ _ hl), fun r2 hr2 => ?_⟩;rw [ec2];have s3 := s2.trans (Same.new (o := HO.lst (ms2.map V.int)) hr2);have p3 := (Same.new (o := HO.lst (ms2.map V.int)) hr2) _ _ hp1;have l3 : (upd H2 r2 (HO.lst (ms2.map V.int))) r2 = some (.lst (ms2.map V.int)) := zB;generalize upd H2 r2 (HO.lst (ms2.map V.int)) = H3 at s3 p3 l3 ⊢;refine ⟨r2, ms2, rfl, SqL.of l3, fun x2 => ⟨_, _, rfl, rfl, by show (0 : Int) < 5; decide, _, _, rfl, rfl, ?_⟩⟩;have k0 := Jk x2 (show (5 : Int) ≠ 0 by decide);have k5 := Jj x2 (show (0 : Int) < 5 by decide);obtain ⟨m, em⟩ : ∃ m : Nat, 1 + x2 % 5 = (m : Int) := ⟨(1 + x2 % 5).toNat, by lia⟩;have m1 : 1 <= m := by lia
  have m5 : m <= 5 := by lia
  refine ⟨(m : Int), congrArg (fun z => [V.int z]) em, by lia, by lia, ?_⟩;clear k0 k5 em;rw [Jx];refine zbt (lo := 0) (n := m) (fun j σ H' => (∃ u0 u1 u2 u3, σ = [some (.ref l), some (.int n), some (.ref p), u0, u1, u2, u3]) /\ Same H H' /\ ∃ qs, H' p = some (.lst (gA n qs)) /\ qs.length = j /\ (∀ p ∈ qs, InN n p) /\ ∀ p ∈ qs, p.1 <= p.2) ⟨⟨_, _, _, _, rfl⟩, s3, [], p3, rfl, (fun _ z => nomatch z), fun _ z => nomatch z⟩ ?_ ?_
  ·rintro j σ H4 hj ⟨⟨u0, u1, u2, u3, rfl⟩, sm, qs, hq, ql, qb, qn⟩;rw [show (0 : Int) + (j : Int) = (j : Int) by lia];dsimp only [xH, List.set];obtain ⟨ms3, ec3, _⟩ := zbe ns (some (2 + (j : Int))) (some (3 + (j : Int)));refine ⟨_, rfl, _, rfl, _, _, rfl, rfl, _, rfl, _, rfl, _, _, rfl, rfl, _, rfl, l, _, rfl, SqL.of (sm _ _ hl), fun r4 hr4 => ?_⟩;rw [ec3];have s5 := sm.trans (Same.new (o := HO.lst (ms3.map V.int)) hr4);have hq5 := (Same.new (o := HO.lst (ms3.map V.int)) hr4) _ _ hq;have l5 : (upd H4 r4 (HO.lst (ms3.map V.int))) r4 = some (.lst (ms3.map V.int)) := zB;generalize upd H4 r4 (HO.lst (ms3.map V.int)) = H5 at s5 hq5 l5 ⊢;refine ⟨r4, ms3, rfl, SqL.of l5, fun x3 => ⟨_, _, rfl, rfl, by show (0 : Int) < 2147483647; decide, ?_⟩⟩;have y0 := Jk x3 (show (2147483647 : Int) ≠ 0 by decide);have y1 := Jj x3 (show (0 : Int) < 2147483647 by decide);dsimp only [xH, List.set];generalize x3 % 2147483647 = y at y0 y1 ⊢;have cy : CMul y y := .inl ⟨by lia, by lia⟩;have cz : CMul 48271 y := .inl ⟨by decide, by decide⟩;refine ⟨_, rfl, _, rfl, _, _, rfl, rfl, cy, _, rfl, _, _, rfl, rfl, cz, _, _, rfl, rfl, _, rfl, _, _, rfl, rfl, _, _, rfl, rfl, _, _, rfl, rfl, by show (0 : Int) < 2147483629; decide, ?_⟩;dsimp only [xH, List.set];generalize (y * y + 48271 * y + (j : Int) + 5) % 2147483629 = g;have np : 0 < n := by lia
   refine ⟨_, rfl, _, _, rfl, rfl, ⟨by decide, by decide⟩, _, rfl, _, _, rfl, rfl, np, ?_⟩;dsimp only [xH, List.set];refine ⟨_, rfl, _, _, rfl, rfl, ⟨by decide, by decide⟩, _, rfl, _, _, rfl, rfl, np, ?_⟩;dsimp only [xH, List.set];have a0 := Jk (g / 7) (show n ≠ 0 by lia);have a1 := Jj (g / 7) np;have b0 := Jk (g / 112) (show n ≠ 0 by lia);have b1 := Jj (g / 112) np;generalize g / 7 % n = x at a0 a1 ⊢;generalize g / 112 % n = z at b0 b1 ⊢;obtain ⟨e1, e2⟩ := zue (x, z);have nl := zzk (x, z);have nc := zmg (x, z);have i0 : 0 <= (vD (x, z)).1 := by rcases nc with ⟨y1, y2⟩ | ⟨y1, y2⟩ <;> (rw [y1]; assumption)
   have i1 : (vD (x, z)).1 < n := by rcases nc with ⟨y1, y2⟩ | ⟨y1, y2⟩ <;> (rw [y1]; assumption)
   have i2 : 0 <= (vD (x, z)).2 := by rcases nc with ⟨y1, y2⟩ | ⟨y1, y2⟩ <;> (rw [y2]; assumption)
   have i3 : (vD (x, z)).2 < n := by rcases nc with ⟨y1, y2⟩ | ⟨y1, y2⟩ <;> (rw [y2]; assumption)
   obtain ⟨t1, t2, t3⟩ := zGy (a := (vD (x, z)).1) (b := (vD (x, z)).2) i0 (by lia) i2 (by lia);have wl : (gA n qs).length = qs.length + 1 := by unfold gA; simp
   refine ⟨_, rfl, .inl ⟨rfl, _, SqL.of hq5⟩, _, rfl, _, rfl, x, z, rfl, (vD (x, z)).1, congrArg (fun y => [V.int y]) e1, zae i0 (by lia), _, _, rfl, rfl, t1, _, rfl, _, rfl, x, z, rfl, (vD (x, z)).2, congrArg (fun y => [V.int y]) e2, zae i2 (by lia), _, _, rfl, rfl, t2, p, _, _, rfl, rfl, hq5, by rw [wl]; exact qI (by lia), ?_⟩;rw [t3];refine ⟨⟨_, _, _, _, rfl⟩, wO s5 pH, qs ++ [vD (x, z)], ?_, by rw [Ql, ql]; rfl, fun y hy => ?_, fun y hy => ?_⟩
   ·rw [zB, zjd]
   ·rcases Q5.mp hy with hy | hy
    ·exact qb y hy
    ·rw [Q3.mp hy];exact ⟨i0, i1, i2, i3⟩
   ·rcases Q5.mp hy with hy | hy
    ·exact qn y hy
    ·rw [Q3.mp hy];exact nl
  ·rintro σ H4 ⟨⟨u0, u1, u2, u3, rfl⟩, sm, qs, hq, ql, qb, qn⟩;refine ⟨rfl, _, rfl, _, p, ([dg n, 58] :: qs.map vN).map mkS, rfl, rfl, SqL.of (by rw [hq]; unfold gA; rw [Jt]; rfl), ?_, ?_⟩
   ·have := znf 3 vN (fun p => Qx _) qs;have e1 : (" " : Str).length = 1 := by decide +kernel
    rw [e1, Jq, Jt, Jq, List.sum_cons, yP];have e2 : (qs.map (mkS ∘ vN)) = qs.map fun p => mkS (vN p) := rfl;rw [e2];simp only [Q1, Qj, List.length_nil];exact xO (by lia)
   ·rw [jB, zmn];have e : [dg n, 58] ++ (qs.map vN).flatMap (fun t => 32 :: t) = vP n qs := by
     unfold vP;rw [List.flatMap_map]
    rw [e];exact q n qs H4 ⟨n2, n5, qb, qn, by lia, by lia⟩ sm
end
theorem znn {i : Int} (h0 : 0 <= i) (h9 : i <= 9) : num [dg i] = some i := by
 have r := j8 h0 h9;rw [zho, if_pos (by unfold xN; simp [r.1, r.2])];congr 1;unfold dg;lia
theorem zCu {p : Int × Int} {n : Int} (h : InN n p) (n9 : n <= 9) : vO (vN p) = some p := by
 obtain ⟨a, b, c, d⟩ := h;unfold vO;rw [zlz ⟨a, b, c, d⟩ n9];show (match num [dg p.1], num [dg p.2] with | some i, some j => some (i, j) | _, _ => none) = some p
 rw [znn a (by lia), znn c (by lia)]
theorem zny {n : Int} (n9 : n <= 9) : ∀ {ps : List (Int × Int)}, (∀ p ∈ ps, InN n p) -> wV (ps.map vN) = some ps
 | [], _ => rfl
 | p :: ps, h => by
  show (match vO (vN p), wV (ps.map vN) with | some p, some ps => some (p :: ps) | _, _ => none) = _
  rw [zCu (h p Qg) n9, zny n9 fun q hq => h q (Qk _ hq)]
theorem zqr {n : Int} {ps : List (Int × Int)} (W : WOK n ps) : zat (vP n ps) = .ok n ps := by
 have n9 : n <= 9 := by have := W.n5; lia
 have n1 : 1 <= n := by have := W.n2; lia
 unfold zat;rw [zjg n1 n9 W.hb];show (match num [dg n], behind (zL 32 [] (ps.flatMap fun p => 32 :: vN p)) with | some n, some ps => made n ps | _, _ => .text) = _
 rw [znn (by lia) n9, zjh n9 W.hb];show (match some n, wV (ps.map vN) with | some n, some ps => made n ps | _, _ => .text) = _
 rw [zny n9 W.hb];show made n ps = _;unfold made;rw [if_pos (by simp [n1, n9]), if_pos (by have := W.p5; lia), zew (fun q hq => ⟨(W.hb q hq).2.1, (W.hb q hq).2.2.2⟩)];have : ∀ l : List (Int × Int), (∀ p ∈ l, p.1 <= p.2) -> l.map zdt = l := by
  intro l
  induction l with
  | nil => intro _; rfl
  | cons p r ih =>
   intro h;rw [Jq, ih fun q hq => h q (Qk _ hq), <- zos, zzl (h p Qg)]
 show Res.ok n (ps.map zdt) = _;rw [this ps W.nm]
theorem zCs {n : Int} {ps : List (Int × Int)} (W : WOK n ps) : qH n ps := ⟨⟨by have := W.n2; lia, by have := W.n5; lia⟩, W.hb, by have := W.p5; lia⟩
def zsl (n : Int) (ps : List (Int × Int)) : List Nat := v3 32 [zbf, [97]] ++ 32 :: vP n ps
theorem zly {n : Int} {ps : List (Int × Int)} : xF 32 2 [] (zsl n ps) = [zbf, [97], vP n ps] := by
 show xF 32 2 [] (119 :: 101 :: 98 :: 32 :: 97 :: 32 :: vP n ps) = _;show [[119, 101, 98], [97]] ++ xF 32 0 [] (vP n ps) = _;rw [qN];rfl
theorem zdf {n : Int} {ps : List (Int × Int)} : vE (zsl n ps) = some [zbf, [97], vP n ps] := by
 have e : hd (zL 32 [] (zsl n ps)) = zbf := rfl;have ec : zZ (zsl n ps) = [zbf, [97], vP n ps] := by
  unfold zZ;rw [if_pos e, zly]
 unfold vE;rw [e, ec];rfl
theorem zti {n : Int} {ps : List (Int × Int)} (W : WOK n ps) : wT [] (zsl n ps) = .made n ps /\ zdb (zsl n ps) = [97] := by
 constructor
 ·unfold wT;rw [zdf];show zBs (zat (vP n ps)) = .made n ps;rw [zqr W];rfl
 ·unfold zdb;rw [zdf];rfl
def t2s : Str := "9: 0-1 1-2 2-3 3-4 4-5 5-6 6-7 7-8"
def t4s : Str := "1: 0-0 0-0 0-0 0-0 0-0"
theorem zfy (n : Int) (ps : List (Int × Int)) : [wT ((ks4 n ps).take 1) (cod ((("web " : Str) ++ "many") ++ " " ++ t2s)), wT ((ks4 n ps).take 2) (cod ((("web " : Str) ++ "few") ++ " " ++ "1:")), wT ((ks4 n ps).take 3) (cod ((("web " : Str) ++ "five") ++ " " ++ t4s)), wT (ks4 n ps) (cod "web show 1:"), wT (ks5 n ps) (cod "show show"), wT (ks5 n ps) (cod "turn over many 0 8 7 6 5 4 3 2 1 0"), wT (ks6 n ps) (cod "show over")] = [.made 9 zmj, .made 1 [], .made 1 zms, .made 1 [], .str (vP 1 []), .made 9 zmf, .str (vP 9 zmf)] := by kernel_rfl
theorem zkp : [zdb (cod ((("web " : Str) ++ "many") ++ " " ++ t2s)), zdb (cod ((("web " : Str) ++ "few") ++ " " ++ "1:")), zdb (cod ((("web " : Str) ++ "five") ++ " " ++ t4s)), zdb (cod "web show 1:"), zdb (cod "turn over many 0 8 7 6 5 4 3 2 1 0")] = [[109, 97, 110, 121], [102, 101, 119], [102, 105, 118, 101], zfp, [111, 118, 101, 114]] := by kernel_rfl
theorem zpy (n : Int) (ps : List (Int × Int)) : ([("a" : Str), "many", "few", "five"].map fun x => wT (ks6 n ps) (cod (("show " : Str) ++ x))) = [.str (vP n ps), .str (vP 9 zmj), .str (vP 1 []), .str (vP 1 zms)] := by kernel_rfl
theorem zft : [vP 9 zmj, vP 1 [], vP 1 zms, vP 9 zmf] = [cod t2s, cod "1:", cod t4s, cod "9: 1-8 1-2 2-3 3-4 4-5 5-6 6-7 0-7"] := by decide +kernel
def names4 : List Str := ["a", "many", "few", "five"]
def vV (n : Int) (ps : List (Int × Int)) : List Str := [mkS (vP n ps), t2s, "1:", t4s]
def wz (x y : Str) : Str := ((("web " : Str) ++ x) ++ " ") ++ y
theorem zwm : qH 9 zmj /\ qH 1 [] /\ qH 1 zms /\ qH 9 zmf := by unfold qH InN; decide +kernel
theorem zjw {n : Int} {ps : List (Int × Int)} (W : WOK n ps) : (∀ c ∈ vP n ps, c < 128) /\ (vP n ps).length <= 30 := by
 have n5 := W.n5;have n2 := W.n2;refine ⟨fun c hc => ?_, by rw [zeg]; have := W.p5; lia⟩;unfold vP at hc;rcases Q5.mp hc with h | h
 ·simp only [Qy, Ju, or_false] at h;rcases h with rfl | rfl
  ·have := j8 (i := n) (by lia) (by lia); lia
  ·decide
 ·obtain ⟨p, hp, h⟩ := List.mem_flatMap.mp h;obtain ⟨a, b, c1, d⟩ := W.hb p hp;have r1 := j8 (i := p.1) a (by lia);have r2 := j8 (i := p.2) c1 (by lia);unfold vN at h;simp only [Qy, Ju, or_false] at h;rcases h with rfl | rfl | rfl | rfl
  ·decide
  ·lia
  ·decide
  ·lia
theorem zet {n : Int} {ps : List (Int × Int)} : cod (wz "a" (mkS (vP n ps))) = zsl n ps := by
 unfold wz;rw [yM, yM, yM, zag, show cod "web " = [119, 101, 98, 32] by decide +kernel, show cod "a" = [97] by decide +kernel, show cod " " = [32] by decide +kernel];rfl
theorem zGk {n : Int} {ps : List (Int × Int)} (W : WOK n ps) : ∀ {i : Nat} {x y : Str}, names4[i]? = some x -> (vV n ps)[i]? = some y -> x.length <= 10 /\ y.length <= 100 /\ Asc (cod (wz x y)) /\ ∃ e, (ks4 n ps)[i]? = some e /\ wT ((ks4 n ps).take i) (cod (wz x y)) = .made e.2.1 e.2.2 /\ zdb (cod (wz x y)) = e.1 /\ ((ks4 n ps).take i).lookup e.1 = none /\ qH e.2.1 e.2.2 := by
 obtain ⟨o1, o2, o3, o4⟩ := zwm;have s := zfy n ps;have m := zkp;injection s with s1 s;injection s with s2 s;injection s with s3 s;injection m with m1 m;injection m with m2 m;injection m with m3 m;intro i x y hx hy
 match i with
 | 0 =>
  cases hx
  cases hy
  obtain ⟨a1, a2⟩ := zti W;refine ⟨by decide +kernel, by rw [yP]; have := (zjw W).2; lia, ?_, _, rfl, by rw [zet]; exact a1, by rw [zet]; exact a2, rfl, zCs W⟩;rw [zet];have z := zjw W;refine ⟨fun c hc => ?_, ?_⟩
  ·rcases Q5.mp (show c ∈ [119, 101, 98, 32, 97] ++ 32 :: vP n ps from hc) with h | h
   ·exact (by decide : ∀ c ∈ [119, 101, 98, 32, 97], c < 128) c h
   ·rcases Qy.mp h with rfl | h
    ·decide
    ·exact z.1 c h
  ·show ([119, 101, 98, 32, 97] ++ 32 :: vP n ps).length <= 900;rw [Ql, Q1];have := z.2;simp;lia
 | 1 =>
  cases hx
  cases hy
  exact ⟨by decide +kernel, by decide +kernel, by unfold Asc; decide +kernel, _, rfl, s1, m1, rfl, o1⟩
 | 2 =>
  cases hx
  cases hy
  exact ⟨by decide +kernel, by decide +kernel, by unfold Asc; decide +kernel, _, rfl, s2, m2, rfl, o2⟩
 | 3 =>
  cases hx
  cases hy
  exact ⟨by decide +kernel, by decide +kernel, by unfold Asc; decide +kernel, _, rfl, s3, m3, rfl, o3⟩
 | j + 4 => simp [names4] at hx
def zru (K : W.Frag) : Sp := fun vs H Q _ => ∃ (a : Addr) (ns : List Int), vs = [.ref a] /\ SqL K H a (ns.map V.int) /\ ns.length <= 63 /\ ∀ H', Q (.bl true) H'
theorem zxg {K : W.Frag} {H H' : Hp} {a d : Addr} {xs : List V} {kvs : List (Key × V)} (hd : H d = some (.dK kvs)) (sx : zcp d H H') (h : SqL K H a xs) : SqL K H' a xs := by
 rcases h with (h | ⟨o, h⟩) | h
 ·exact .inl (.inl (sx _ _ (kU h hd (by intro z; cases z)) h))
 ·exact .inl (.inr ⟨o, sx _ _ (kU h hd (by intro z; cases z)) h⟩)
 ·exact .inr h
theorem zxr {d : Addr} {H1 H2 H3 : Hp} (a : zcp d H1 H2) (b : zcp d H2 H3) : zcp d H1 H3 := fun c o n h => b c o n (a c o n h)
theorem zIn {d : Addr} {H1 H2 : Hp} (a : Same H1 H2) : zcp d H1 H2 := fun c o _ h => a c o h
section
variable {P : Program} {w : World} {K : W.Frag} {mg : Str -> Option Value} {base : Heap} {c : Fin 10 -> Addr} {CD : Addr}
seal PSs PS PE PI PA PT PG
theorem scLaw : zR ["_law_script", "_law_desk", "_law_texts", "_law_name", "_law_text", "_law_cell", "_law_word", "_law_row_here"] ["_law_script"] (zH zmc) := ⟨rfl, rfl, rfl, by decide +kernel, rfl, by decide +kernel, by decide +kernel⟩
theorem zHc : (["_law_name", "_law_desk"] : List Str).Nodup := by decide +kernel
theorem zhk {a d : Addr} {ks : qY} {H : Hp} {z : Str} {Q : VK} (DA : DeskAt CD H a d ks) (as : Asc (cod z)) (h : zCm CD c a d ks (zdb (cod z)) H Q E0 (wT ks (cod z))) : kR K CD c ([V.ref a, V.str z] ++ []) H Q E0 := ⟨a, d, ks, .str z, rfl, DA, .inr ⟨cod z, congrArg V.str (zad z).symm, as, h⟩⟩
theorem zhr {n : Nat} (h : n <= 200) : n <= sizeLine := Qc h (by decide)
theorem zsv {x y : Str} (hx : x.length <= 10) (hy : y.length <= 100) : ("web " : Str).length + x.length <= sizeLine /\ (("web " : Str) ++ x).length + (" " : Str).length <= sizeLine /\ ((("web " : Str) ++ x) ++ " ").length + y.length <= sizeLine := by
 have e1 : ("web " : Str).length = 4 := by decide +kernel
 have e2 : (" " : Str).length = 1 := by decide +kernel
 refine ⟨zhr ?_, zhr ?_, zhr ?_⟩ <;> simp only [PySem.Str.length_append, e1, e2] <;> lia
theorem zDa : ("show b" : Str) ∈ namedRows := by decide +kernel
theorem zwn {z : Str} {H : Hp} {Q : Bool -> Hp -> Prop} (h : Q false H) : rNe (.str z) (.str z) H fun x H' => ∃ k, x = .bl k /\ Q k H' := ⟨rfl, false, by simp, h⟩
theorem zIh {a d : Addr} {ks : qY} {H : Hp} {σ : St} {z : Str} {ta : TA} {Q : Bool -> Hp -> Prop} {n : Int} {qs : List (Int × Int)} {nm : List Nat} (hσ : σ[1]? = some (some (.ref a))) (hta : ∀ R : List V -> Hp -> Prop, R [V.str z] H -> ta σ H R) (DA : DeskAt CD H a d ks) (as : Asc (cod z)) (so : wT ks (cod z) = .made n qs) (en : zdb (cod z) = nm) (lk : ks.lookup nm = none) (ok : qH n qs) (lt : ks.length < 100) (hk : ∀ H', zcp d H H' -> DeskAt CD H' a d (ks ++ [(nm, n, qs)]) -> Q false H') : zcg (tOp rNe (zch CD "say" (kR K CD c) [] E0 (zex 1) ta) (tC (.str "ok"))) σ H Q := by
 obtain ⟨dx, kvs, ha, _, _⟩ := DA.ex;refine ⟨_, hσ, a, dx, fW d, rfl, ha, zja d, hta _ ?_⟩;refine zhk DA as ?_;rw [so, en];exact ⟨lk, ok, lt, fun H' sx D' => zwn (hk H' sx D')⟩
theorem zIg {a d : Addr} {ks : qY} {H : Hp} {σ : St} {z y : Str} {ta : TA} {Q : Bool -> Hp -> Prop} (hσ : σ[1]? = some (some (.ref a))) (hta : ∀ R : List V -> Hp -> Prop, R [V.str z] H -> ta σ H R) (DA : DeskAt CD H a d ks) (as : Asc (cod z)) {w : List Nat} (so : wT ks (cod z) = .str w) (ew : w = cod y) (hk : ∀ H', Same H H' -> Q false H') : zcg (tOp rNe (zch CD "say" (kR K CD c) [] E0 (zex 1) ta) (tC (.str y))) σ H Q := by
 obtain ⟨dx, kvs, ha, _, _⟩ := DA.ex;subst ew;refine ⟨_, hσ, a, dx, fW d, rfl, ha, zja d, hta _ ?_⟩;refine zhk DA as ?_;rw [so];intro H' s;rw [show wI (cod y) = .str y from congrArg V.str (zad y)];exact zwn (hk H' s)
theorem ifM {a d : Addr} {ks : qY} {H : Hp} {σ : St} {z : Str} {ta : TA} {t u : TS} {D : gP} {n : Int} {qs : List (Int × Int)} {nm : List Nat} (hσ : σ[1]? = some (some (.ref a))) (DA : DeskAt CD H a d ks) (as : Asc (cod z)) (so : wT ks (cod z) = .made n qs) (en : zdb (cod z) = nm) (lk : ks.lookup nm = none) (ok : qH n qs) (lt : ks.length < 100) (hta : ∀ R : List V -> Hp -> Prop, R [V.str z] H -> ta σ H R) (hk : ∀ H', zcp d H H' -> DeskAt CD H' a d (ks ++ [(nm, n, qs)]) -> u D σ H') : zsk (zcg (tOp rNe (zch CD "say" (kR K CD c) [] E0 (zex 1) ta) (tC (.str "ok")))) t u D σ H := zIh hσ hta DA as so en lk ok lt fun H' a b => yR (hk H' a b)
theorem ifS {a d : Addr} {ks : qY} {H : Hp} {σ : St} {z y : Str} {ta : TA} {t u : TS} {D : gP} {w : List Nat} (hσ : σ[1]? = some (some (.ref a))) (DA : DeskAt CD H a d ks) (as : Asc (cod z)) (so : wT ks (cod z) = .str w) (ew : w = cod y) (hta : ∀ R : List V -> Hp -> Prop, R [V.str z] H -> ta σ H R) (hk : ∀ H', Same H H' -> u D σ H') : zsk (zcg (tOp rNe (zch CD "say" (kR K CD c) [] E0 (zex 1) ta) (tC (.str y)))) t u D σ H := zIg hσ hta DA as so ew fun H' a => yR (hk H' a)
theorem zJa {a d : Addr} {ks : qY} {H : Hp} {σ : St} {z z2 y : Str} {ta tb : TA} {t u : TS} {D : gP} {n : Int} {qs : List (Int × Int)} {nm w : List Nat} (hσ : σ[1]? = some (some (.ref a))) (DA : DeskAt CD H a d ks) (as : Asc (cod z)) (so : wT ks (cod z) = .made n qs) (en : zdb (cod z) = nm) (lk : ks.lookup nm = none) (ok : qH n qs) (lt : ks.length < 100) (hta : ∀ R : List V -> Hp -> Prop, R [V.str z] H -> ta σ H R)
  (as2 : Asc (cod z2)) (so2 : wT (ks ++ [(nm, n, qs)]) (cod z2) = .str w) (ew : w = cod y) (htb : ∀ (H : Hp) (R : List V -> Hp -> Prop), R [V.str z2] H -> tb σ H R) (hk : ∀ H', zcp d H H' -> DeskAt CD H' a d (ks ++ [(nm, n, qs)]) -> u D σ H') : zsk (tOr (zcg (tOp rNe (zch CD "say" (kR K CD c) [] E0 (zex 1) ta) (tC (.str "ok")))) (zcg (tOp rNe (zch CD "say" (kR K CD c) [] E0 (zex 1) tb) (tC (.str y))))) t u D σ H :=
 zIh hσ hta DA as so en lk ok lt fun H' sx D' => yR (zIg hσ (htb H') D' as2 so2 ew fun H2 s2 => yR (hk H2 (zxr sx (zIn s2)) (D'.same s2)))
theorem ifR {a d : Addr} {ks : qY} {H : Hp} {σ : St} {x : Str} {v : V} {ta : TA} {t u : TS} {D : gP} (hta : ∀ R : List V -> Hp -> Prop, R [.ref a, .str x, v] H -> ta σ H R) (DA : DeskAt CD H a d ks) (alt : (x = "row" /\ Plain K H v /\ ∀ z, v ≠ .str z) \/ ∃ l i, v = wI l /\ Asc l /\ x = hU i /\ wT ks l = .exc i) (hk : ∀ H', Same H H' -> u D σ H') : zsk (zHu (tB (zic (zbm K CD) [] E0 ta))) t u D σ H := hta _ ⟨a, d, ks, x, v, rfl, DA, alt, fun H' s => ⟨true, rfl, yR (hk H' s)⟩⟩
theorem zok {H : Hp} {x : Str} {v : V} {n : Int} {ps : List (Int × Int)} (W : WOK n ps) (h : zIi K H x v) : (x = "row" /\ Plain K H v /\ ∀ z, v ≠ .str z) \/ ∃ l i, v = wI l /\ Asc l /\ x = hU i /\ wT (ks6 n ps) l = .exc i := by
 rcases h with h | ⟨z, rfl, h⟩
 ·exact .inl h
 ·obtain ⟨i, ew, es⟩ := h.ex;exact .inr ⟨cod z, i, congrArg V.str (zad z).symm, h.asc, ew, es n ps (by have := W.n2; lia) W.n5 W.p5⟩
theorem shows {n : Int} {ps : List (Int × Int)} : ∀ {i : Nat} {x : Str}, names4[i]? = some x -> ∃ y, (vV n ps)[i]? = some y /\ wT (ks6 n ps) (cod (("show " : Str) ++ x)) = .str (cod y) /\ Asc (cod (("show " : Str) ++ x)) /\ ("show " : Str).length + x.length <= sizeLine := by
 have s := zpy n ps;have m := zft;injection s with s1 s;injection s with s2 s;injection s with s3 s;injection s with s4 s;injection m with m1 m;injection m with m2 m;injection m with m3 m;intro i x hx
 match i with
 | 0 => cases hx; exact ⟨_, rfl, by rw [zag]; exact s1, by unfold Asc; decide +kernel, by decide +kernel⟩
 | 1 => cases hx; exact ⟨_, rfl, by rw [<- m1]; exact s2, by unfold Asc; decide +kernel, by decide +kernel⟩
 | 2 => cases hx; exact ⟨_, rfl, by rw [<- m2]; exact s3, by unfold Asc; decide +kernel, by decide +kernel⟩
 | 3 => cases hx; exact ⟨_, rfl, by rw [<- m3]; exact s4, by unfold Asc; decide +kernel, by decide +kernel⟩
 | j + 4 => simp [names4] at hx
theorem zEe {a d tx : Addr} {H : Hp} {σ : St} {n : Int} {ps : List (Int × Int)} {t u : TS} {D : gP} (hσ : σ[1]? = some (some (.ref a))) (hσ2 : σ[2]? = some (some (.ref tx))) (DA : DeskAt CD H a d (ks6 n ps)) (ht : H tx = some (.lst ((vV n ps).map V.str))) (hk : ∀ H', Same H H' -> u D σ H') :
  zsk (zcg (tOp (zmd K false) (zBh (zFo .l K (zHv (zxf names4))) [none, some 1] (xH 0) zFi (zch CD "say" (kR K CD c) [] E0 (zex 1) (zBg (tOp (fun x y H Q => ∃ i j, x = V.str i /\ y = V.str j /\ i.length + j.length <= sizeLine /\ Q (V.str (i ++ j)) H) (tC (V.str "show ")) (zex 0)) zFk))) (zex 2))) t u D σ H := by
 refine ⟨by show 4 <= sizeLine; decide, fun nm hnm => ?_⟩;have s5 := Same.new (o := HO.lst (names4.map V.str)) hnm;have l5 : (upd H nm (HO.lst (names4.map V.str))) nm = some (.lst (names4.map V.str)) := zB;generalize upd H nm (HO.lst (names4.map V.str)) = H5 at s5 l5 ⊢;have st : qB [none, some 1] σ = [none, some (.ref a)] := by
  show [none, (σ[1]?).join] = _;rw [hσ];rfl
 rw [st];refine ⟨nm, rfl, ⟨_, SqL.of l5⟩, wY (k := .l) (a := nm) (xs := names4.map V.str) (fun σ => ∃ v, σ = [v, some (.ref a)]) (fun j ys H' => Same H5 H' /\ ys = ((vV n ps).take j).map V.str) ⟨_, rfl⟩ ⟨Same.refl _, rfl⟩ (by show 4 < sizeLine; decide) (fun i ys H' _ z => SqL.of (z.1 _ _ l5)) ?_ ?_⟩
 ·rintro i x ys σ H6 N hx ⟨v, rfl⟩ ⟨s6, rfl⟩ hN;rw [Q8, Option.map_eq_some_iff] at hx;obtain ⟨x, hx, rfl⟩ := hx;obtain ⟨y, hy, so, as, xl⟩ := shows (n := n) (ps := ps) hx;have DA6 := DA.same (s5.trans s6);obtain ⟨dx, kvs, ha, _, _⟩ := DA6.ex;dsimp only [xH, List.set];refine zaw ?_;refine ⟨_, rfl, a, dx, fW d, rfl, ha, zja d, _, rfl, _, _, rfl, rfl, xl, ?_⟩;refine zhk DA6 as ?_;rw [so];intro H7 s7;refine hN _ _ _ ⟨_, rfl⟩ ⟨s6.trans s7, ?_⟩ (by simp);rw [zW hy, Qp, show wI (cod y) = .str y from congrArg V.str (zad y)];rfl
 ·rintro ys H6 ⟨s6, rfl⟩ p hp;have s7 := Same.new (o := HO.lst (((vV n ps).take (names4.map V.str).length).map V.str)) hp;refine ⟨_, hσ2, p, tx, _, (vV n ps).map V.str, 0, rfl, rfl, .inr ⟨SqL.of zB, SqL.of (s7 _ _ (s6 _ _ (s5 _ _ ht)))⟩, rfl, by decide, zfz rfl rfl, _, rfl, yR (hk _ ((s5.trans s6).trans s7))⟩
theorem zDu {f fS : Addr} {fd fdS : FuncData} (F : Fun K "law" "law" zmc f fd) (T : Txt K mg) (D : DC K mg CD) (mS : znd K CD "say" fS) (OS : v9 P w K mg base (CXq P w) 7 fS fdS ["self", "row"] (kR K CD c)) (bS : Binds K fdS ["self", "row"] []) (DA : Def P w K mg base 1 "_law_at" ["_law_script", "_law_k"] (zHx K)) (DW : Def P w K mg base 1 "_law_web" ["_law_cells"] (zwe K)) (DR : Def P w K mg base 2 "_law_row" ["_law_cell"] (zBi K)) (DF : Def P w K mg base 8 "_law_refused" ["_law_desk", "_law_word", "_law_row_here"] (zbm K CD)) :
  v9 P w K mg base CX0 9 f fd ["_law_script"] (zru K) := by
 obtain ⟨fI, fdI, mI, FI, bI⟩ := D.mI;have OI : v9 P w K mg base CX0 1 fI fdI ["self"] (zoj CD) := zub D FI;refine F.ok scLaw (fun vs H Q E h => ?_) (fun cdv A outer s H vs Q E hr h => ?_)
 ·obtain ⟨a, ns, rfl, _⟩ := h; rfl
 ·obtain ⟨sc, ns, rfl, hsc, nl, q⟩ := h;have hr1 : Room 1 _ := hr.mono (by decide);have hr2 : Room 2 _ := hr.mono (by decide);have hr7 : Room 7 _ := hr.mono (by decide);refine ⟨_, zD (zU (i := 1) scLaw.nd rfl (Or.inr rfl) (ztu mI OI hr2 rfl D.gD bI .nil zBy))
   (zD (zU (i := 2) scLaw.nd rfl (Or.inl rfl) (yF (zA (yC DW hr1 rfl (zA (wP (wX K) (pv 0) qF (wJ zF)) zC)) (zA zE (zA zE (zA zE zC))))))
   (zD (zaa PassesOwn.never rfl (zhl K .l .l rfl T.zip (zA (yF (pas names4 (zA zE (zA zE (zA zE (zA zE zC)))))) (zA (pv 2) zC))) (jX K 2 rfl (xV (yE (i := 3) scLaw.nd rfl (Or.inl rfl)) (xV (yE (i := 4) scLaw.nd rfl (Or.inl rfl)) jW)))
    (zG (yL (zP j6 (jZ (pv 1) D.cl mS OS hr7 bS .nil ziu (zA (zN xA (zN xA (zN xA zE (pv 3)) zE) (pv 4)) zC)) zE (yA _)) (zG (zV gT)) zQ)))
   (zD (yL (PW.pt (zit (zP j6 (jZ (pv 1) D.cl mS OS hr7 bS .nil ziu (zA zE zC)) zE (yA _)) (zcr (zP j6 (jZ (pv 1) D.cl mS OS hr7 bS .nil ziu (zA zE zC)) zE (yA _))))) (zG (zV gT)) zQ)
   (zD (yL (zP j6 (jZ (pv 1) D.cl mS OS hr7 bS .nil ziu (zA zE zC)) zE (yA _)) (zG (zV gT)) zQ)
   (zD (yL (zP j6 (jZ (pv 1) D.cl mS OS hr7 bS .nil ziu (zA zE zC)) zE (yA _)) (zG (zV gT)) zQ)
   (zD (zaa PassesOwn.never rfl (wK K .l (zN yZ (yF (zA (yC DA hr1 rfl (zA (pv 0) (zA zF zC))) zC)) (wP (wX K) (pv 0) (wJ zF) (wJ zF)))) (yE (i := 5) scLaw.nd rfl (Or.inl rfl))
    (zD (zab (yC DR hr2 rfl (zA (pv 5) zC)) (jX K 2 rfl (xV (yE (i := 6) scLaw.nd rfl (Or.inl rfl)) (xV (yE (i := 7) scLaw.nd rfl (Or.inl rfl)) jW))))
    (zD (yL (vF (wG (yC DF hr rfl (zA (pv 1) (zA (pv 6) (zA (pv 7) zC)))))) (zG (zV gT)) zQ)
    (zD (yL (zP (zzd K (znw hr)) (wL (N' := ["_law_name", "_law_desk"]) (fr := [none, some 1]) (yH (by rfl)) rfl (wK K .l (yF (pas names4 (zA zE (zA zE (zA zE (zA zE zC))))))) (fun _ _ _ _ => yE (i := 0) zHc rfl (Or.inl rfl) (Or.inr rfl)) (fun _ _ _ _ => yX) (fun _ _ _ _ => (jZ (pv 1) D.cl mS OS hr7 bS .nil ziu (zA (zN xA zE (pv 0)) zC)))) (pv 2) (yA _)) (zG (zV gT)) zQ)
    (zG (yL (vF (wG (yC DF hr rfl (zA (pv 1) (zA zE (zA zE zC)))))) (zG (zV gT)) zQ))))))
   (zG (zV gT)))))))), ?_⟩
  intro a dx na ndx nad;refine ⟨a, dx, rfl, zB, fun d nd => ⟨rfl, ?_⟩⟩;have e0 : d ≠ a := fun z => by rw [z, zB] at nd; cases nd
  have nd1 : (upd H dx (.own a)) d = none := by rw [zS e0] at nd; exact nd
  have e1 : d ≠ dx := fun z => by rw [z, zB] at nd1; cases nd1
  have nd0 : H d = none := by rw [zS e1] at nd1; exact nd1
  have s1 : Same H (upd (upd (upd (upd H dx (.own a)) a (.ins CD dx [])) d (.dK [])) a (.ins CD dx (fW d))) := wO (wO (wO (wO (Same.refl H) ndx) na) nd0) na;have DA1 : DeskAt CD (upd (upd (upd (upd H dx (.own a)) a (.ins CD dx [])) d (.dK [])) a (.ins CD dx (fW d))) a d [] := ⟨⟨dx, [], zB, by rw [zS e0, zB], .nil⟩, (fun _ z => nomatch z), by decide⟩
  have hsc1 := s1.seq hsc;generalize upd (upd (upd (upd H dx (.own a)) a (.ins CD dx [])) d (.dK [])) a (.ins CD dx (fW d)) = H1 at s1 DA1 hsc1 ⊢;dsimp only [xH, List.set];obtain ⟨ms, em, _⟩ := zbe ns none (some 8);refine ⟨_, rfl, _, rfl, sc, _, rfl, hsc1, fun r hr' => ?_⟩;rw [em];have s2 := Same.new (o := HO.lst (ms.map V.int)) hr';have l2 : (upd H1 r (HO.lst (ms.map V.int))) r = some (.lst (ms.map V.int)) := zB
  replace DA1 := DA1.same s2
  replace hsc1 := s2.seq hsc1
  generalize upd H1 r (HO.lst (ms.map V.int)) = H2 at l2 DA1 hsc1 ⊢;clear s1 s2;refine ⟨r, ms, rfl, l2, fun n ps H3 W s3 => ?_⟩
  replace DA1 := DA1.same s3
  replace hsc1 := s3.seq hsc1
  clear l2 s3;refine ⟨by show 4 <= sizeLine; decide, fun tx htx => ?_⟩;have s4 := Same.new (o := HO.lst ((vV n ps).map V.str)) htx;have l4 : (upd H3 tx (HO.lst ((vV n ps).map V.str))) tx = some (.lst ((vV n ps).map V.str)) := zB
  replace DA1 := DA1.same s4
  replace hsc1 := s4.seq hsc1
  show zxu _ _ _ [some (.ref sc), some (.ref a), some (.ref tx), none, none, none, none, none] (upd H3 tx (HO.lst ((vV n ps).map V.str)));generalize upd H3 tx (HO.lst ((vV n ps).map V.str)) = H4 at l4 DA1 hsc1 ⊢;clear s4 htx;refine wS fun M0 hM0 => hM0 _ _ ?_;clear hM0 M0;refine wS fun M hM => ?_;refine ⟨by show 4 <= sizeLine; decide, fun nm hnm => ?_⟩;have s5 := Same.new (o := HO.lst (names4.map V.str)) hnm;have l5 : (upd H4 nm (HO.lst (names4.map V.str))) nm = some (.lst (names4.map V.str)) := zB
  replace DA1 := DA1.same s5
  replace hsc1 := s5.seq hsc1
  replace l4 := s5 _ _ l4
  generalize upd H4 nm (HO.lst (names4.map V.str)) = H5 at l4 l5 DA1 hsc1 ⊢;clear s5 hnm;refine ⟨_, rfl, nm, tx, _, _, rfl, SqL.of l5, SqL.of l4, zzy (k1 := .l) (k2 := .l) (xs := names4.map V.str) (ys := (vV n ps).map V.str) (fun i σ H' => (∃ u v, σ = [some (.ref sc), some (.ref a), some (.ref tx), u, v, none, none, none]) /\ DeskAt CD H' a d ((ks4 n ps).take i) /\ SqL K H' sc (ns.map V.int) /\ H' tx = some (.lst ((vV n ps).map V.str)) /\ H' nm = some (.lst (names4.map V.str))) ⟨⟨_, _, rfl⟩, DA1, hsc1, l4, l5⟩ (fun i σ H' _ z => ⟨SqL.of z.2.2.2.2, SqL.of z.2.2.2.1⟩) (by simp [names4, vV]) ?_ ?_⟩
  ·rintro i x y p σ H6 hx hy ⟨⟨u, v, rfl⟩, DA6, hsc6, t6, n6⟩ hp;rw [Q8, Option.map_eq_some_iff] at hx hy;obtain ⟨x, hx, rfl⟩ := hx;obtain ⟨y, hy, rfl⟩ := hy;obtain ⟨xl, yl, as, e, he, so, en, lk, ok⟩ := zGk W hx hy;have s7 := Same.new (o := HO.tup [.str x, .str y]) hp;have p7 : (upd H6 p (HO.tup [.str x, .str y])) p = some (.tup [.str x, .str y]) := zB
   replace DA6 := DA6.same s7
   replace hsc6 := s7.seq hsc6
   replace t6 := s7 _ _ t6
   replace n6 := s7 _ _ n6
   generalize upd H6 p (HO.tup [.str x, .str y]) = H7 at p7 DA6 hsc6 t6 n6 ⊢;clear s7 hp;refine ⟨p, _, rfl, SqT.of p7, rfl, _, _, rfl, _, _, rfl, rfl, ?_⟩;show zsk _ _ _ _ [some (.ref sc), some (.ref a), some (.ref tx), some (.str x), some (.str y), none, none, none] H7;have il : i < 4 := (Qn.mp he).1;refine ifM (nm := e.1) (n := e.2.1) (qs := e.2.2) (z := wz x y) rfl DA6 as so en lk ok (by rw [Jm]; lia) ?_ fun H8 sx D8 => ?_
   ·obtain ⟨f1, f2, f3⟩ := zsv xl yl;exact fun R hR => ⟨_, rfl, _, _, rfl, rfl, f1, _, _, rfl, rfl, f2, _, rfl, _, _, rfl, rfl, f3, hR⟩
   ·obtain ⟨_, kvs, _, hd, _⟩ := DA6.ex;rw [<- zW he] at D8;exact ⟨⟨_, _, rfl⟩, D8, zxg hd sx hsc6, sx _ _ (kU t6 hd (by intro z; cases z)) t6, sx _ _ (kU n6 hd (by intro z; cases z)) n6⟩
  ·rintro σ H6 ⟨⟨u, v, rfl⟩, DA6, hsc6, t6, n6⟩;refine hM _ _ ?_;clear hM M;obtain ⟨o1, o2, o3, o4⟩ := zwm;have say := zfy n ps;have nms := zkp;have wts := zft;injection say with _ say;injection say with _ say;injection say with _ say;injection say with say1 say;injection say with say2 say;injection say with say3 say;injection say with say4 _;injection nms with _ nms;injection nms with _ nms;injection nms with _ nms;injection nms with nm1 nms;injection nms with nm2 _;injection wts with _ wts;injection wts with wt1 wts;injection wts with _ wts;injection wts with wt2 _
   replace DA6 : DeskAt CD H6 a d (ks4 n ps) := DA6
   refine wS fun M hM => ?_;refine zJa (a := a) (d := d) (nm := zfp) rfl DA6 (by unfold Asc; decide +kernel) say1 nm1 rfl o2 (show 4 < 100 by decide) (fun R hR => hR) (by unfold Asc; decide +kernel) say2 wt1 (fun _ R hR => hR) fun H7 sx D7 => hM _ _ ?_;clear hM M;obtain ⟨_, kvs, _, hd, _⟩ := DA6.ex
   replace hsc6 := zxg hd sx hsc6
   replace t6 := sx _ _ (kU t6 hd (by intro z; cases z)) t6
   clear DA6 n6 sx hd
   replace D7 : DeskAt CD H7 a d (ks5 n ps) := D7
   refine wS fun M hM => ?_;refine ifM (a := a) (d := d) (nm := [111, 118, 101, 114]) rfl D7 (by unfold Asc; decide +kernel) say3 nm2 rfl o4 (show 5 < 100 by decide) (fun R hR => hR) fun H8 sx D8 => hM _ _ ?_;clear hM M;obtain ⟨_, kvs, _, hd, _⟩ := D7.ex
   replace hsc6 := zxg hd sx hsc6
   replace t6 := sx _ _ (kU t6 hd (by intro z; cases z)) t6
   clear D7 sx hd
   replace D8 : DeskAt CD H8 a d (ks6 n ps) := D8
   refine wS fun M hM => ?_;refine ifS (a := a) (d := d) rfl D8 (by unfold Asc; decide +kernel) say4 wt2 (fun R hR => hR) fun H9 s9 => hM _ _ ?_;clear hM M
   replace D8 := D8.same s9
   replace hsc6 := s9.seq hsc6
   replace t6 := s9 _ _ t6
   clear s9;refine wS fun M hM => ?_;obtain ⟨ms2, em2, ml⟩ := zbe ns (some 9) (some 48);refine ⟨_, rfl, sc, ns, 8, rfl, hsc6, by show 1 <= sizeLine; decide, fun l7 hl7 => ?_⟩;have s7 := Same.new (o := HO.lst [.int (ns.getD 8 0)]) hl7;have e7 : (upd H9 l7 (HO.lst [.int (ns.getD 8 0)])) l7 = some (.lst [.int (ns.getD 8 0)]) := zB;generalize upd H9 l7 (HO.lst [.int (ns.getD 8 0)]) = H10 at s7 e7 ⊢;refine ⟨_, rfl, _, rfl, _, rfl, sc, _, rfl, s7.seq hsc6, fun l8 hl8 => ?_⟩;rw [em2];have s8 := Same.new (o := HO.lst (ms2.map V.int)) hl8;have e8 : (upd H10 l8 (.lst (ms2.map V.int))) l8 = some (.lst (ms2.map V.int)) := zB
   replace e7 := s8 _ _ e7
   replace s8 := s7.trans s8
   generalize upd H10 l8 (.lst (ms2.map V.int)) = H11 at s8 e7 e8 ⊢;refine ⟨l7, l8, _, _, rfl, rfl, e7, e8, ?_, fun p9 hp9 => ?_⟩
   ·rw [Qj];exact Qc (show 1 + ms2.length <= 64 by lia) (by decide)
   have s9 := s8.trans (Same.new (o := HO.lst ([.int (ns.getD 8 0)] ++ ms2.map V.int)) hp9);have e9 : (upd H11 p9 (.lst ([.int (ns.getD 8 0)] ++ ms2.map V.int))) p9 = some (.lst ((ns.getD 8 0 :: ms2).map V.int)) := zB;generalize upd H11 p9 (.lst ([.int (ns.getD 8 0)] ++ ms2.map V.int)) = H12 at s9 e9 ⊢;generalize ns.getD 8 0 :: ms2 = cs at e9 ⊢
   replace D8 := D8.same s9
   replace t6 := s9 _ _ t6
   clear s9 s8 s7 e7 e8;refine ⟨p9, rfl, ⟨_, SqL.of e9⟩, zpa (k := .l) (K := K) (a := p9) (xs := cs.map V.int) (fun i σ H' => Same H12 H' /\ ∃ u1 u2 u3 u4 u5, σ = [some (.ref sc), some (.ref a), some (.ref tx), u1, u2, u3, u4, u5]) ⟨Same.refl _, _, _, _, _, _, rfl⟩ (fun i σ H' _ z => SqL.of (z.1 _ _ e9)) ?_ ?_⟩
   ·rintro i x σ H13 hxi ⟨s13, u1, u2, u3, u4, u5, rfl⟩;rw [Q8, Option.map_eq_some_iff] at hxi;obtain ⟨cc, _, rfl⟩ := hxi;refine wS fun M hM => ?_;refine ⟨_, rfl, cc, rfl, fun tt x v H14 s14 ht rv => ⟨tt, _, rfl, SqT.of ht, rfl, _, _, rfl, _, _, rfl, rfl, hM _ _ ?_⟩⟩;clear hM M
    replace s14 := s13.trans s14
    show zxu _ _ _ [some (.ref sc), some (.ref a), some (.ref tx), u1, u2, some (.int cc), some (.str x), some v] H14;refine wS fun M hM => ?_;refine ifR (a := a) (d := d) (x := x) (v := v) (fun R hR => ⟨_, rfl, _, rfl, _, rfl, hR⟩) (D8.same s14) (zok W rv) fun H15 s15 => hM _ _ ?_;clear hM M
    replace s15 := s14.trans s15
    refine wS fun M hM => ?_;refine zEe (a := a) (d := d) (tx := tx) rfl rfl (D8.same s15) (s15 _ _ t6) fun H16 s16 => hM _ _ ?_;clear hM M
    replace s16 := s15.trans s16
    refine ifR (a := a) (d := d) (x := "name") (v := .str "show b") (fun R hR => ⟨_, rfl, hR⟩) (D8.same s16) (zok W (.inr ⟨_, rfl, zkq zDa⟩)) fun H17 s17 => ?_;exact ⟨s16.trans s17, _, _, _, _, _, rfl⟩
   ·rintro σ H13 ⟨s13, u1, u2, u3, u4, u5, rfl⟩;exact hM _ _ (q _)
end
end My
namespace My
open PySem L2 PySem.W
def eqK : List Value -> List vJ -> Bool
 | [], [] => true
 | .str z _ :: r, k :: ks => decide (z = zsc k) && eqK r ks
 | _, _ => false
theorem zww : ∀ {us : List Value} {ks : List vJ}, eqK us ks = true -> Vals (ks.map v6) us
 | [], [], _ => .nil
 | .str z t :: r, k :: ks, h => by
  unfold eqK at h;rw [Qm] at h;exact .cons ⟨t, by rw [Jr h.1]⟩ (zww h.2)
 | [], _ :: _, h => nomatch h
 | .str _ _ :: _, [], h => nomatch h
 | .none :: _, _, h => by unfold eqK at h; cases h
 | .bool _ :: _, _, h => by unfold eqK at h; cases h
 | .int _ _ :: _, _, h => by unfold eqK at h; cases h
 | .ref _ :: _, _, h => by unfold eqK at h; cases h
def zBf (K : Frag) (a : Addr) (ks : List vJ) : Bool := match K.lookup a with
 | some o => (match o.cls, o.data with
  | .type c, .seq its _ => decide (c = "tuple") && (decide (its.size <= 10) && eqK its.toList ks)
  | _, _ => false)
 | none => false
theorem zxs {K : Frag} {a : Addr} {ks : List vJ} (h : zBf K a ks = true) (H : Hp) : SqT K H a (ks.map v6) := by
 unfold zBf at h;cases e : K.lookup a with
 | none => rw [e] at h; cases h
 | some o =>
  rw [e] at h;dsimp only at h;split at h
  ·rename_i c its n hc hd
   simp only [Qm] at h;exact .inr ⟨o, its, n, e, by rw [hc, Jr h.1], hd, Qc (Jr h.2.1) (by decide), zww h.2.2⟩
  ·cases h
def zcw (K : Frag) : List DictEntry -> List (List Nat × List vJ) -> Bool
 | [], [] => true
 | e :: r, p :: fs => (match e.key, e.val with | .str x _, .ref a => decide (cod x = p.1) && zBf K a p.2 | _, _ => false) && zcw K r fs
 | _, _ => false
theorem zgf {x y : Str} {t : Tok} : (Value.str y t).isStr x = (cod x == cod y) := by
 show (y == x) = _;rw [Jd, beq_iff_eq, beq_iff_eq];exact ⟨fun h => by rw [h], fun h => by rw [<- zad y, <- h, zad]⟩
theorem zbs {K : Frag} (x : Str) : ∀ {es : List DictEntry} {fs : List (List Nat × List vJ)}, zcw K es fs = true -> es.any (·.refKey) = false /\ (fs.lookup (cod x) = none -> es.find? (·.key.isStr x) = none) /\ ∀ ks, fs.lookup (cod x) = some ks -> ∃ e a, es.find? (·.key.isStr x) = some e /\ e.val = .ref a /\ zBf K a ks = true
 | [], [], _ => ⟨rfl, fun _ => rfl, fun _ h => nomatch h⟩
 | [], _ :: _, h => nomatch h
 | _ :: _, [], h => by unfold zcw at h; cases h
 | e :: r, p :: fs, h => by
  unfold zcw at h;rw [Qm] at h;obtain ⟨h1, h2⟩ := h;split at h1
  ·rename_i y t a hk hv
   rw [Qm] at h1;have ec : cod y = p.1 := Jr h1.1;obtain ⟨i1, i2, i3⟩ := zbs x h2;have er : e.refKey = false := by unfold DictEntry.refKey; rw [hk]
   have es : e.key.isStr x = (cod x == p.1) := by rw [hk, zgf, ec]
   refine ⟨by rw [Wh, er, i1]; rfl, ?_, ?_⟩
   ·rw [Q7, Jf, es];cases cod x == p.1 with
    | true => exact fun z => nomatch z
    | false => exact i2
   ·rw [Q7, Jf, es];cases cod x == p.1 with
    | true => exact fun ks z => ⟨e, a, rfl, hv, by cases z; exact h1.2⟩
    | false => exact i3
  ·cases h1
def zxa : List DictEntry -> List (List Nat) -> Bool
 | [], [] => true
 | e :: r, p :: fs => (match e.key with | .str x _ => decide (cod x = p) | _ => false) && zxa r fs
 | _, _ => false
theorem zpl (x : Str) : ∀ {es : List DictEntry} {fs : List (List Nat)}, zxa es fs = true -> es.any (·.refKey) = false /\ (es.find? (·.key.isStr x)).isSome = decide (cod x ∈ fs)
 | [], [], _ => ⟨rfl, rfl⟩
 | [], _ :: _, h => nomatch h
 | _ :: _, [], h => by unfold zxa at h; cases h
 | e :: r, p :: fs, h => by
  unfold zxa at h;rw [Qm] at h;obtain ⟨h1, h2⟩ := h;split at h1
  ·rename_i y t hk
   have ec : cod y = p := Jr h1;obtain ⟨i1, i2⟩ := zpl x h2;have er : e.refKey = false := by unfold DictEntry.refKey; rw [hk]
   have es : e.key.isStr x = (cod x == p) := by rw [hk, zgf, ec]
   refine ⟨by rw [Wh, er, i1]; rfl, ?_⟩;rw [Jf, es];cases e2 : cod x == p with
   | true =>
    refine (Qb ?_).symm;rw [eq_of_beq e2];exact Qg
   | false =>
    rw [i2];have : cod x ≠ p := by intro z; rw [z, beq_self_eq_true] at e2; cases e2
    exact decide_eq_decide.mpr ⟨fun z => Qk _ z, fun z => (Qy.mp z).resolve_left this⟩
  ·cases h1
theorem dk_of {K : Frag} {w : World} {mg : Str -> Option Value} {fa ca : Addr} {es es2 : Array DictEntry} {n n2 : Nat} (mf : mg "FORMS" = some (.ref fa)) (mc : mg "COUNTED" = some (.ref ca)) (lf : K.lookup fa = some ⟨.type "dict", none, .dict es n, #[]⟩) (lc : K.lookup ca = some ⟨.type "dict", none, .dict es2 n2, #[]⟩) (kf : KeysLit w.params es.toList) (kc : KeysLit w.params es2.toList) (sf : (fa == sysModules) = false) (sc : (ca == sysModules) = false) (bf : zcw K es.toList formsT = true) (bc : zxa es2.toList zCj = true) : DK K w mg fa ca := by
 refine ⟨mf, mc, ⟨⟨es, n, lf, kf⟩, sf⟩, ⟨⟨es2, n2, lc, kc⟩, sc⟩, fun x hx => ?_, fun x ks hx => ?_, fun x => ?_⟩
 ·obtain ⟨h1, h2, _⟩ := zbs x bf;unfold nsIn;rw [lf];dsimp only;rw [h2 hx, h1];rfl
 ·obtain ⟨_, _, h3⟩ := zbs x bf;obtain ⟨e, a, e1, e2, e3⟩ := h3 ks hx;refine ⟨a, ?_, zxs e3⟩;unfold nsIn;rw [lf];dsimp only;rw [e1, <- e2]
 ·obtain ⟨h1, h2⟩ := zpl x bc;unfold nsIn;rw [lc];dsimp only;rw [h1, <- h2];cases es2.toList.find? (·.key.isStr x) with
  | none => exact ⟨_, rfl, rfl⟩
  | some e => exact ⟨_, rfl, rfl⟩
end My
namespace My
open PySem L2
def jA (K : W.Frag) (C : Addr) : List Value := match K.lookup C with | some o => (match o.data with | .cls cd => cd.mro.tail | _ => []) | none => []
def zwz (a b c d e f g h i j : Addr) : Fin 10 -> Addr := fun k => match k with | 0 => a | 1 => b | 2 => c | 3 => d | 4 => e | 5 => f | 6 => g | 7 => h | 8 => i | 9 => j
def zIb (a b c d e : Addr) : Fin 5 -> Addr := fun k => match k with | 0 => a | 1 => b | 2 => c | 3 => d | 4 => e
def znr (K : W.Frag) (C0 C1 C2 C3 C4 C5 C6 C7 C8 C9 CW : Addr) : Bool := vH K C0 (jA K C0) && (vH K C1 (jA K C1) && (vH K C2 (jA K C2) && (vH K C4 (jA K C4) && (vH K C5 (jA K C5) && (vH K C7 (jA K C7) && (vH K C8 (jA K C8) && (vH K C9 (jA K C9) && (vH K CW (jA K CW) && ((jU K C3 (jA K C3) && zdu K C3) && ((jU K C6 (jA K C6) && zdu K C6) && (PySem.W.readsIn K CW (.type "type"))))))))))))
theorem zrm {K : W.Frag} {C0 C1 C2 C3 C4 C5 C6 C7 C8 C9 CW : Addr} (h : znr K C0 C1 C2 C3 C4 C5 C6 C7 C8 C9 CW = true) : vH K C0 (jA K C0) = true /\ vH K C1 (jA K C1) = true /\ vH K C2 (jA K C2) = true /\ vH K C4 (jA K C4) = true /\ vH K C5 (jA K C5) = true /\ vH K C7 (jA K C7) = true /\ vH K C8 (jA K C8) = true /\ vH K C9 (jA K C9) = true /\ vH K CW (jA K CW) = true /\ (jU K C3 (jA K C3) = true /\ zdu K C3 = true) /\ (jU K C6 (jA K C6) = true /\ zdu K C6 = true) /\ PySem.W.readsIn K CW (.type "type") = true := by
 unfold znr at h;simp only [Qm] at h;exact h
def zHp (K : W.Frag) (c : Fin 10 -> Addr) (o : Fin 5 -> Addr) (W : Addr) : Bool := decide (∀ i, zsg K (c i) = true /\ PySem.W.subIn K (.ref (c i)) (.ref W) = some true /\ PySem.W.kitOne K (.ref (c i)) (.type "ValueError") = some true /\ (∀ j, PySem.W.kitOne K (.ref (c i)) (.ref (c j)) = some (decide (i = j))) /\ ∀ j, PySem.W.kitOne K (.ref (c i)) (.ref (o j)) = some false)
theorem zCy {K : W.Frag} {h : Heap} {mg : Str -> Option Value} {x : Str} {st : Stmt} {f : Addr} {ps : List Str} {oc : Value} {od an : Option Addr} {osl : Array (Option Value)} {kV doc pm cdv ct : Value} (X : K.In h) (G : h.Ns mainGlobals mg)
  (a : PySem.W.nsIn K mainGlobals x = some (some (.ref f))) (l : K.lookup f = some ⟨oc, od, .func (PySem.W.fnOf x x (wC st) (xJ st) (zH st) .none kV doc pm an cdv ct), osl⟩) (c : PySem.W.codeIn K cdv x = true) (k : PySem.W.keepIn K (.ref f) = true)
  (hb : ∀ (kV doc pm : Value) (an : Option Addr) (cdv ct : Value) (us : List Value), us.length = ps.length -> bindArgs (PySem.W.fnOf x x (wC st) (xJ st) (zH st) .none kV doc pm an cdv ct) ⟨us, []⟩ = pure (ps.zip us)) : Src K mg x st ps :=
 ⟨_, _, vC (st := st) l c k, (vC (st := st) l c k).binds hb, PySem.W.mg_of X G a⟩
theorem zCc {p : List Value -> Prop} {n : Nat} (h : ∀ (a : Value) (us : List Value), us.length = n -> p (a :: us)) : ∀ us : List Value, us.length = n + 1 -> p us := fun us hl => by
 cases us with
 | nil => cases hl
 | cons a us => exact h a us (Nat.succ.inj hl)
theorem zIy {p : List Value -> Prop} (h : p []) : ∀ us : List Value, us.length = 0 -> p us := fun us hl => by
 rw [List.length_eq_zero_iff.mp hl];exact h
theorem gK {p : List Value -> Prop} (h : ∀ a, p [a]) : ∀ us : List Value, us.length = 1 -> p us := zCc fun a => zIy (p := fun us => p (a :: us)) (h a)
theorem j9 {p : List Value -> Prop} (h : ∀ a b, p [a, b]) : ∀ us : List Value, us.length = 2 -> p us := zCc fun a => gK (p := fun us => p (a :: us)) (h a)
theorem zsm {p : List Value -> Prop} (h : ∀ a b c, p [a, b, c]) : ∀ us : List Value, us.length = 3 -> p us := zCc fun a => j9 (p := fun us => p (a :: us)) (h a)
theorem zFn {p : List Value -> Prop} (h : ∀ a b c d, p [a, b, c, d]) : ∀ us : List Value, us.length = 4 -> p us := zCc fun a => zsm (p := fun us => p (a :: us)) (h a)
section
variable {K : W.Frag} {h : Heap} {mg : Str -> Option Value} {x : Str} {st : Stmt} {ps : List Str}
def FA (K : W.Frag) (x : Str) (st : Stmt) : Prop := ∃ (f : Addr) (oc : Value) (od an : Option Addr) (osl : Array (Option Value)) (kV doc pm cdv ct : Value), PySem.W.nsIn K mainGlobals x = some (some (.ref f)) /\ K.lookup f = some ⟨oc, od, .func (PySem.W.fnOf x x (wC st) (xJ st) (zH st) .none kV doc pm an cdv ct), osl⟩ /\ PySem.W.codeIn K cdv x = true /\ PySem.W.keepIn K (.ref f) = true
theorem fa_mk {f : Addr} {oc : Value} {od an : Option Addr} {osl : Array (Option Value)} {kV doc pm cdv ct : Value} (a : PySem.W.nsIn K mainGlobals x = some (some (.ref f))) (l : K.lookup f = some ⟨oc, od, .func (PySem.W.fnOf x x (wC st) (xJ st) (zH st) .none kV doc pm an cdv ct), osl⟩) (c : PySem.W.codeIn K cdv x = true) (k : PySem.W.keepIn K (.ref f) = true) : FA K x st := ⟨f, oc, od, an, osl, kV, doc, pm, cdv, ct, a, l, c, k⟩
theorem yI (X : K.In h) (G : h.Ns mainGlobals mg) (d : FA K x st) (hb : ∀ (kV doc pm : Value) (an : Option Addr) (cdv ct : Value) (us : List Value), us.length = ps.length -> bindArgs (PySem.W.fnOf x x (wC st) (xJ st) (zH st) .none kV doc pm an cdv ct) ⟨us, []⟩ = pure (ps.zip us)) : Src K mg x st ps := by
 obtain ⟨f, oc, od, an, osl, kV, doc, pm, cdv, ct, a, l, c, k⟩ := d;exact zCy X G a l c k hb
end
theorem all_mk {l : PySem.W.OpenLaw} {w : World} {K : W.Frag} {h : Heap} {mg : Str -> Option Value} {fa : Addr} (X : K.In h) (G : h.Ns mainGlobals mg) (hfa : mg "law" = some (.ref fa))
  (d0 : FA K "is_whole" zao)
  (d1 : FA K "is_whole_within" zdj)
  (d2 : FA K "is_pair_of_points" zrv)
  (d3 : FA K "lesser_first" gE)
  (d4 : FA K "made_web" zrw)
  (d5 : FA K "read_number" qO)
  (d6 : FA K "read_tie" zan)
  (d7 : FA K "read_web" zam)
  (d8 : FA K "whole_pick" zig)
  (d9 : FA K "web_text" zak)
  (d10 : FA K "refuse_no_point_of" zmb)
  (d11 : FA K "refuse_no_tie_of" zij)
  (d12 : FA K "ties_at" zdl)
  (d13 : FA K "is_end_in" ziq)
  (d14 : FA K "refuse_not_apart" zez)
  (d15 : FA K "laid_with" zim)
  (d16 : FA K "laid_beside" zdr)
  (d17 : FA K "laid_at" zaz)
  (d18 : FA K "turned_over" zih)
  (d19 : FA K "left_out" zry)
  (d20 : FA K "drawn_together" zir)
  (d21 : FA K "refuse_less_than" zBq)
  (d22 : FA K "colour_count" zdq)
  (d23 : FA K "flow_count" zdp)
  (d24 : FA K "pick_of" zdm)
  (d25 : FA K "is_number" zio)
  (d26 : FA K "is_name" zdo)
  (d27 : FA K "form_of" zsa)
  (d28 : FA K "fits" zsb)
  (d29 : FA K "words_of" zif)
  (d30 : FA K "made_by" zdn)
  (d31 : FA K "told_by" zdk)
  (d32 : FA K "_law_at" sAt)
  (d33 : FA K "_law_web" zrz)
  (d34 : FA K "_law_no_row" zik)
  (d35 : FA K "_law_long_row" zrx)
  (d36 : FA K "_law_named" zil)
  (d37 : FA K "_law_other" zii)
  (d38 : FA K "_law_kinds" zin)
  (d39 : FA K "_law_due" zBr)
  (d40 : FA K "_law_refused" zal)
  (d41 : FA K "_law_row" zBp)
  {f42 : Addr} {od42 an42 : Option Addr} {sl42 : Array (Option Value)} {oc42 kV42 dc42 pm42 cd42 ct42 : Value}
  (a42 : PySem.W.nsIn K mainGlobals "law" = some (some (.ref f42))) (l42 : K.lookup f42 = some ⟨oc42, od42, .func (PySem.W.fnOf "law" "law" (wC zmc) (xJ zmc) (zH zmc) .none kV42 dc42 pm42 an42 cd42 ct42), sl42⟩) (c42 : PySem.W.codeIn K cd42 "law" = true) (k42 : PySem.W.keepIn K (.ref f42) = true)
  (z0 : PySem.W.nsIn K mainGlobals "isinstance" = some none) (z1 : PySem.W.nsIn K mainGlobals "int" = some none) (z2 : PySem.W.nsIn K mainGlobals "bool" = some none) (z3 : PySem.W.nsIn K mainGlobals "len" = some none) (z4 : PySem.W.nsIn K mainGlobals "tuple" = some none) (z5 : PySem.W.nsIn K mainGlobals "all" = some none) (z6 : PySem.W.nsIn K mainGlobals "list" = some none) (z7 : PySem.W.nsIn K mainGlobals "min" = some none) (z8 : PySem.W.nsIn K mainGlobals "max" = some none) (z9 : PySem.W.nsIn K mainGlobals "range" = some none) (z10 : PySem.W.nsIn K mainGlobals "set" = some none) (z11 : PySem.W.nsIn K mainGlobals "sorted" = some none) (z12 : PySem.W.nsIn K mainGlobals "enumerate" = some none) (z13 : PySem.W.nsIn K mainGlobals "zip" = some none) (z14 : PySem.W.nsIn K mainGlobals "str" = some none) (z15 : PySem.W.nsIn K mainGlobals "any" = some none) (z16 : PySem.W.nsIn K mainGlobals "sum" = some none) (z17 : PySem.W.nsIn K mainGlobals "ValueError" = some none)
  {ti0 : Tok} (y0 : PySem.W.nsIn K mainGlobals "MOST_POINTS" = some (some (.int 9 ti0)))
  {ti1 : Tok} (y1 : PySem.W.nsIn K mainGlobals "MOST_TIES" = some (some (.int 8 ti1)))
  {ti2 : Tok} (y2 : PySem.W.nsIn K mainGlobals "FIGURES" = some (some (.str "0123456789" ti2)))
  {ti3 : Tok} (y3 : PySem.W.nsIn K mainGlobals "MOST_FIGURES" = some (some (.int 60 ti3)))
  {ti4 : Tok} (y4 : PySem.W.nsIn K mainGlobals "LETTERS" = some (some (.str "abcdefghijklmnopqrstuvwxyz" ti4)))
  {ti5 : Tok} (y5 : PySem.W.nsIn K mainGlobals "MOST_LETTERS" = some (some (.int 8 ti5)))
  {C0 : Addr} (q0 : PySem.W.nsIn K mainGlobals "NoText" = some (some (.ref C0)))
  {C1 : Addr} (q1 : PySem.W.nsIn K mainGlobals "NoWeb" = some (some (.ref C1)))
  {C2 : Addr} (q2 : PySem.W.nsIn K mainGlobals "TooMany" = some (some (.ref C2)))
  {C3 : Addr} (q3 : PySem.W.nsIn K mainGlobals "NoTie" = some (some (.ref C3)))
  {C4 : Addr} (q4 : PySem.W.nsIn K mainGlobals "NoSuch" = some (some (.ref C4)))
  {C5 : Addr} (q5 : PySem.W.nsIn K mainGlobals "NoPoint" = some (some (.ref C5)))
  {C6 : Addr} (q6 : PySem.W.nsIn K mainGlobals "NotApart" = some (some (.ref C6)))
  {C7 : Addr} (q7 : PySem.W.nsIn K mainGlobals "NoNumber" = some (some (.ref C7)))
  {C8 : Addr} (q8 : PySem.W.nsIn K mainGlobals "NoRow" = some (some (.ref C8)))
  {C9 : Addr} (q9 : PySem.W.nsIn K mainGlobals "NoName" = some (some (.ref C9)))
  {O0 : Addr} (qo0 : PySem.W.nsIn K mainGlobals "NoOrder" = some (some (.ref O0)))
  {O1 : Addr} (qo1 : PySem.W.nsIn K mainGlobals "NoPlaces" = some (some (.ref O1)))
  {O2 : Addr} (qo2 : PySem.W.nsIn K mainGlobals "NoDrawing" = some (some (.ref O2)))
  {O3 : Addr} (qo3 : PySem.W.nsIn K mainGlobals "NotJoined" = some (some (.ref O3)))
  {O4 : Addr} (qo4 : PySem.W.nsIn K mainGlobals "NotPlane" = some (some (.ref O4)))
  {CW : Addr} (qw : PySem.W.nsIn K mainGlobals "WebError" = some (some (.ref CW)))
  {CD : Addr} (qD : PySem.W.nsIn K mainGlobals "Desk" = some (some (.ref CD)))
  {FA0 : Addr} (mF : PySem.W.nsIn K mainGlobals "FORMS" = some (some (.ref FA0)))
  {CA0 : Addr} (mC : PySem.W.nsIn K mainGlobals "COUNTED" = some (some (.ref CA0)))
  (x1 : znr K C0 C1 C2 C3 C4 C5 C6 C7 C8 C9 CW = true)
  (x2 : zHp K (zwz C0 C1 C2 C3 C4 C5 C6 C7 C8 C9) (zIb O0 O1 O2 O3 O4) CW = true)
  (s1 : PySem.W.specialIn K (.ref CW) "__getattribute__" = some (some (.builtin "type.__getattribute__")))
  (f1 : PySem.W.findCls K (.ref CW) (.type "type") "__init__" = some (.val (.builtin "ValueError.__init__")))
  (nNI : PySem.W.findIn K (.ref C3) "at" = some none)
  (sNI : PySem.W.findIn K (.ref C3) "__setattr__" = some (some (.builtin "object.__setattr__")))
  {fNI : Addr} {odNI anNI : Option Addr} {slNI : Array (Option Value)} {kVNI dcNI pmNI cdNI ctNI : Value} (aNI : PySem.W.findIn K (.ref C3) "__init__" = some (some (.ref fNI)))
  (lNI : K.lookup fNI = some ⟨.type "function", odNI, .func (PySem.W.fnOf "__init__" "NoTie.__init__" (wC gB) (xJ gB) (zH gB) .none kVNI dcNI pmNI anNI cdNI ctNI), slNI⟩)
  (cNI : PySem.W.codeIn K cdNI "NoTie.__init__" = true)
  (kNI : PySem.W.keepIn K (.ref fNI) = true)
  (nNJ : PySem.W.findIn K (.ref C6) "point" = some none)
  (sNJ : PySem.W.findIn K (.ref C6) "__setattr__" = some (some (.builtin "object.__setattr__")))
  {fNJ : Addr} {odNJ anNJ : Option Addr} {slNJ : Array (Option Value)} {kVNJ dcNJ pmNJ cdNJ ctNJ : Value} (aNJ : PySem.W.findIn K (.ref C6) "__init__" = some (some (.ref fNJ)))
  (lNJ : K.lookup fNJ = some ⟨.type "function", odNJ, .func (PySem.W.fnOf "__init__" "NotApart.__init__" (wC qU) (xJ qU) (zH qU) .none kVNJ dcNJ pmNJ anNJ cdNJ ctNJ), slNJ⟩)
  (cNJ : PySem.W.codeIn K cdNJ "NotApart.__init__" = true)
  (kNJ : PySem.W.keepIn K (.ref fNJ) = true)
  {eF eC : Array DictEntry} {mnF mnC : Nat} (lF : K.lookup FA0 = some ⟨.type "dict", none, .dict eF mnF, #[]⟩)
  (lC : K.lookup CA0 = some ⟨.type "dict", none, .dict eC mnC, #[]⟩)
  (kF : PySem.W.KeysLit w.params eF.toList)
  (kC : PySem.W.KeysLit w.params eC.toList)
  (sF : (FA0 == sysModules) = false)
  (sC : (CA0 == sysModules) = false)
  (bF : zcw K eF.toList formsT = true)
  (bC : zxa eC.toList zCj = true)
  (pgD : PySem.W.plainGet K CD Str.empty = true)
  (hdD : PySem.W.hasDictIn K CD = true)
  (poD : PySem.W.plainOver K CD = true)
  (saD : PySem.W.findIn K (.ref CD) "__setattr__" = some (some (.builtin "object.__setattr__")))
  (mkD : PySem.W.makesIn K CD = true)
  (kcD : PySem.W.keepIn K (.ref CD) = true)
  (nD : PySem.W.findIn K (.ref CD) "webs" = some none)
  {fDI : Addr} {odDI anDI : Option Addr} {slDI : Array (Option Value)} {ocDI kVDI dcDI pmDI cdDI ctDI : Value} (aDI : PySem.W.findIn K (.ref CD) "__init__" = some (some (.ref fDI)))
  (iDI : PySem.W.isFn K (.ref fDI) = true)
  (lDI : K.lookup fDI = some ⟨ocDI, odDI, .func (PySem.W.fnOf "__init__" "Desk.__init__" (wC gF) (xJ gF) (zH gF) .none kVDI dcDI pmDI anDI cdDI ctDI), slDI⟩)
  (cDI : PySem.W.codeIn K cdDI "Desk.__init__" = true)
  (kDI : PySem.W.keepIn K (.ref fDI) = true)
  {fDS : Addr} {odDS anDS : Option Addr} {slDS : Array (Option Value)} {ocDS kVDS dcDS pmDS cdDS ctDS : Value} (aDS : PySem.W.findIn K (.ref CD) "say" = some (some (.ref fDS)))
  (iDS : PySem.W.isFn K (.ref fDS) = true)
  (lDS : K.lookup fDS = some ⟨ocDS, odDS, .func (PySem.W.fnOf "say" "Desk.say" (wC zkh) (xJ zkh) (zH zkh) .none kVDS dcDS pmDS anDS cdDS ctDS), slDS⟩)
  (cDS : PySem.W.codeIn K cdDS "Desk.say" = true)
  (kDS : PySem.W.keepIn K (.ref fDS) = true)
  {fDT : Addr} {odDT anDT : Option Addr} {slDT : Array (Option Value)} {ocDT kVDT dcDT pmDT cdDT ctDT : Value} (aDT : PySem.W.findIn K (.ref CD) "thing_of" = some (some (.ref fDT)))
  (iDT : PySem.W.isFn K (.ref fDT) = true)
  (lDT : K.lookup fDT = some ⟨ocDT, odDT, .func (PySem.W.fnOf "thing_of" "Desk.thing_of" (wC jG) (xJ jG) (zH jG) .none kVDT dcDT pmDT anDT cdDT ctDT), slDT⟩)
  (cDT : PySem.W.codeIn K cdDT "Desk.thing_of" = true)
  (kDT : PySem.W.keepIn K (.ref fDT) = true)
  : ∃ fd : FuncData, (∀ (s : Shared) (v : Value), BindsTo s fd ⟨[v], []⟩ [("_law_script", v)]) /\ ∀ base : Heap, K.In base -> base.Ns mainGlobals mg -> v9 l.prog w K mg base CX0 9 fa fd ["_law_script"] (zru K) := by
 have e := hfa.symm.trans (PySem.W.mg_of X G a42);cases e
 have S0 : Src K mg "is_whole" zao ["thing"] := yI X G d0 fun _ _ _ _ _ _ => gK (fun _ => rfl);have S1 : Src K mg "is_whole_within" zdj ["thing", "least", "greatest"] := yI X G d1 fun _ _ _ _ _ _ => zsm (fun _ _ _ => rfl);have S2 : Src K mg "is_pair_of_points" zrv ["thing", "points"] := yI X G d2 fun _ _ _ _ _ _ => j9 (fun _ _ => rfl);have S3 : Src K mg "lesser_first" gE ["a", "b"] := yI X G d3 fun _ _ _ _ _ _ => j9 (fun _ _ => rfl);have S4 : Src K mg "made_web" zrw ["points", "ties"] := yI X G d4 fun _ _ _ _ _ _ => j9 (fun _ _ => rfl);have S5 : Src K mg "read_number" qO ["word"] := yI X G d5 fun _ _ _ _ _ _ => gK (fun _ => rfl);have S6 : Src K mg "read_tie" zan ["word"] := yI X G d6 fun _ _ _ _ _ _ => gK (fun _ => rfl);have S7 : Src K mg "read_web" zam ["text"] := yI X G d7 fun _ _ _ _ _ _ => gK (fun _ => rfl);have S8 : Src K mg "whole_pick" zig ["web"] := yI X G d8 fun _ _ _ _ _ _ => gK (fun _ => rfl);have S9 : Src K mg "web_text" zak ["web"] := yI X G d9 fun _ _ _ _ _ _ => gK (fun _ => rfl);have S10 : Src K mg "refuse_no_point_of" zmb ["web", "point"] := yI X G d10 fun _ _ _ _ _ _ => j9 (fun _ _ => rfl);have S11 : Src K mg "refuse_no_tie_of" zij ["web", "k"] := yI X G d11 fun _ _ _ _ _ _ => j9 (fun _ _ => rfl);have S12 : Src K mg "ties_at" zdl ["ties", "places"] := yI X G d12 fun _ _ _ _ _ _ => j9 (fun _ _ => rfl);have S13 : Src K mg "is_end_in" ziq ["web", "ties", "point"] := yI X G d13 fun _ _ _ _ _ _ => zsm (fun _ _ _ => rfl);have S14 : Src K mg "refuse_not_apart" zez ["web", "pick", "u", "v"] := yI X G d14 fun _ _ _ _ _ _ => zFn (fun _ _ _ _ => rfl);have S15 : Src K mg "laid_with" zim ["one", "other", "places"] := yI X G d15 fun _ _ _ _ _ _ => zsm (fun _ _ _ => rfl);have S16 : Src K mg "laid_beside" zdr ["one", "other"] := yI X G d16 fun _ _ _ _ _ _ => j9 (fun _ _ => rfl);have S17 : Src K mg "laid_at" zaz ["one", "p", "other", "q"] := yI X G d17 fun _ _ _ _ _ _ => zFn (fun _ _ _ _ => rfl);have S18 : Src K mg "turned_over" zih ["web", "pick", "u", "v"] := yI X G d18 fun _ _ _ _ _ _ => zFn (fun _ _ _ _ => rfl);have S19 : Src K mg "left_out" zry ["web", "k"] := yI X G d19 fun _ _ _ _ _ _ => j9 (fun _ _ => rfl);have S20 : Src K mg "drawn_together" zir ["web", "k"] := yI X G d20 fun _ _ _ _ _ _ => j9 (fun _ _ => rfl);have S21 : Src K mg "refuse_less_than" zBq ["thing", "least"] := yI X G d21 fun _ _ _ _ _ _ => j9 (fun _ _ => rfl);have S22 : Src K mg "colour_count" zdq ["web", "q"] := yI X G d22 fun _ _ _ _ _ _ => j9 (fun _ _ => rfl);have S23 : Src K mg "flow_count" zdp ["web", "q"] := yI X G d23 fun _ _ _ _ _ _ => j9 (fun _ _ => rfl);have S24 : Src K mg "pick_of" zdm ["web", "numbers"] := yI X G d24 fun _ _ _ _ _ _ => j9 (fun _ _ => rfl);have S25 : Src K mg "is_number" zio ["word"] := yI X G d25 fun _ _ _ _ _ _ => gK (fun _ => rfl);have S26 : Src K mg "is_name" zdo ["word"] := yI X G d26 fun _ _ _ _ _ _ => gK (fun _ => rfl);have S27 : Src K mg "form_of" zsa ["words"] := yI X G d27 fun _ _ _ _ _ _ => gK (fun _ => rfl);have S28 : Src K mg "fits" zsb ["kind", "word"] := yI X G d28 fun _ _ _ _ _ _ => j9 (fun _ _ => rfl);have S29 : Src K mg "words_of" zif ["row"] := yI X G d29 fun _ _ _ _ _ _ => gK (fun _ => rfl);have S30 : Src K mg "made_by" zdn ["first", "things"] := yI X G d30 fun _ _ _ _ _ _ => j9 (fun _ _ => rfl);have S31 : Src K mg "told_by" zdk ["first", "things"] := yI X G d31 fun _ _ _ _ _ _ => j9 (fun _ _ => rfl);have S32 : Src K mg "_law_at" sAt ["_law_script", "_law_k"] := yI X G d32 fun _ _ _ _ _ _ => j9 (fun _ _ => rfl);have S33 : Src K mg "_law_web" zrz ["_law_cells"] := yI X G d33 fun _ _ _ _ _ _ => gK (fun _ => rfl);have S34 : Src K mg "_law_no_row" zik ["_law_cell"] := yI X G d34 fun _ _ _ _ _ _ => gK (fun _ => rfl);have S35 : Src K mg "_law_long_row" zrx ["_law_cell"] := yI X G d35 fun _ _ _ _ _ _ => gK (fun _ => rfl);have S36 : Src K mg "_law_named" zil ["_law_cell"] := yI X G d36 fun _ _ _ _ _ _ => gK (fun _ => rfl);have S37 : Src K mg "_law_other" zii ["_law_cell"] := yI X G d37 fun _ _ _ _ _ _ => gK (fun _ => rfl);have S38 : Src K mg "_law_kinds" zin ["_law_e"] := yI X G d38 fun _ _ _ _ _ _ => gK (fun _ => rfl);have S39 : Src K mg "_law_due" zBr ["_law_word"] := yI X G d39 fun _ _ _ _ _ _ => gK (fun _ => rfl);have S40 : Src K mg "_law_refused" zal ["_law_desk", "_law_word", "_law_row_here"] := yI X G d40 fun _ _ _ _ _ _ => zsm (fun _ _ _ => rfl);have S41 : Src K mg "_law_row" zBp ["_law_cell"] := yI X G d41 fun _ _ _ _ _ _ => gK (fun _ => rfl);have T : Txt K mg := ⟨PySem.W.mg_none_of X G z0, PySem.W.mg_none_of X G z1, PySem.W.mg_none_of X G z2, PySem.W.mg_none_of X G z3, PySem.W.mg_none_of X G z4, PySem.W.mg_none_of X G z5, PySem.W.mg_none_of X G z6, PySem.W.mg_none_of X G z7, PySem.W.mg_none_of X G z8, PySem.W.mg_none_of X G z9, PySem.W.mg_none_of X G z10, PySem.W.mg_none_of X G z11, PySem.W.mg_none_of X G z12, PySem.W.mg_none_of X G z13, PySem.W.mg_none_of X G z14, PySem.W.mg_none_of X G z15, PySem.W.mg_none_of X G z16, ⟨_, PySem.W.mg_of X G y0⟩, ⟨_, PySem.W.mg_of X G y1⟩⟩;obtain ⟨x1a, x1b, x1c, x1d, x1e, x1f, x1g, x1h, x1i, x1j, x1k, x1l⟩ := zrm x1;have x3 := Jr x2;have XD : zFv K mg (zwz C0 C1 C2 C3 C4 C5 C6 C7 C8 C9) (zIb O0 O1 O2 O3 O4) CW (jA K CW) := ⟨PySem.W.mg_of X G q0, PySem.W.mg_of X G q1, PySem.W.mg_of X G q2, PySem.W.mg_of X G q3, PySem.W.mg_of X G q4, PySem.W.mg_of X G q5, PySem.W.mg_of X G q6, PySem.W.mg_of X G q7, PySem.W.mg_of X G q8, PySem.W.mg_of X G q9, PySem.W.mg_of X G qo0, PySem.W.mg_of X G qo1, PySem.W.mg_of X G qo2, PySem.W.mg_of X G qo3, PySem.W.mg_of X G qo4, PySem.W.mg_of X G qw, PySem.W.mg_none_of X G z17, x1i, fun i => (x3 i).1, fun i => (x3 i).2.1, fun i => (x3 i).2.2.1, fun i => (x3 i).2.2.2.1, fun i => (x3 i).2.2.2.2⟩;have NN : NT K mg C3 CW (jA K C3) := ⟨PySem.W.mg_of X G q3, PySem.W.mg_of X G qw, x1j.1, ⟨fNI, _, _, aNI, lNI, rfl, vC (st := gB) lNI cNI kNI, (vC (st := gB) lNI cNI kNI).binds fun _ _ _ _ _ _ => j9 (fun _ _ => rfl)⟩, s1, x1l, f1, sNI, x1j.2, nNI⟩;have NA : NTA K mg C6 CW (jA K C6) := ⟨PySem.W.mg_of X G q6, PySem.W.mg_of X G qw, x1k.1, ⟨fNJ, _, _, aNJ, lNJ, rfl, vC (st := qU) lNJ cNJ kNJ, (vC (st := qU) lNJ cNJ kNJ).binds fun _ _ _ _ _ _ => j9 (fun _ _ => rfl)⟩, s1, x1l, f1, sNJ, x1k.2, nNJ⟩;have DKK : DK K w mg FA0 CA0 := dk_of (PySem.W.mg_of X G mF) (PySem.W.mg_of X G mC) lF lC kF kC sF sC bF bC;have DCC : DC K mg CD := ⟨PySem.W.mg_of X G qD, ⟨pgD, hdD, poD, saD⟩, nD, ⟨fDI, _, ⟨mkD, aDI, iDI, kcD⟩, vC (st := gF) lDI cDI kDI, (vC (st := gF) lDI cDI kDI).binds fun _ _ _ _ _ _ => gK (fun _ => rfl)⟩, ⟨fDS, _, ⟨aDS, iDS, kDS⟩, vC (st := zkh) lDS cDS kDS, (vC (st := zkh) lDS cDS kDS).binds fun _ _ _ _ _ _ => j9 (fun _ _ => rfl)⟩, ⟨fDT, _, ⟨aDT, iDT, kDT⟩, vC (st := jG) lDT cDT kDT, (vC (st := jG) lDT cDT kDT).binds fun _ _ _ _ _ _ => zsm (fun _ _ _ => rfl)⟩⟩;refine ⟨PySem.W.fnOf "law" "law" (wC zmc) (xJ zmc) (zH zmc) .none kV42 dc42 pm42 an42 cd42 ct42, fun s v => .of_eq rfl, fun base _ _ => ?_⟩;have W1 : Def l.prog w K mg base 1 _ _ _ := zuy T S0;have WI : Def l.prog w K mg base 2 _ _ _ := zrd T S1 W1;have PR : Def l.prog w K mg base 3 _ _ _ := zEm T S2 WI;have LR : Def l.prog w K mg base 1 _ _ _ := zve S3;have LF : Def l.prog w K mg base 1 _ _ _ := zEr S3;have MQ : y9 l.prog w K mg base 4 _ _ _ := zAn T S4 XD.n1 x1b XD.n2 x1c NN WI PR LR;have RN : y9 l.prog w K mg base 1 _ _ _ := zEn T (PySem.W.mg_of X G y2) XD.n0 x1a S5;have RT : y9 l.prog w K mg base 2 _ _ _ := zAi T XD.n0 x1a S6 RN;have RW : y9 l.prog w K mg base 5 _ _ _ := zEj T T.str XD.n0 x1a S7 RN RT MQ;have WP : Def l.prog w K mg base 1 _ _ _ := zJe T S8;have WX : Def l.prog w K mg base 1 _ _ _ := zAe T S9;have NP : Def l.prog w K mg base 3 _ _ _ := zEo S10 WI;have NB : y9 l.prog w K mg base 3 _ _ _ := zAm S10 XD.n5 x1e WI;have TQ : y9 l.prog w K mg base 3 _ _ _ := zvb T XD.n4 x1d S11 WI;have TA : Def l.prog w K mg base 2 _ _ _ := zva T S12 LF;have EI : Def l.prog w K mg base 1 _ _ _ := zAr T.any S13;have AP : Def l.prog w K mg base 2 _ _ _ := zAk T S14 WP EI;have AB : y9 l.prog w K mg base 3 _ _ _ := zvc T NA S14 WP EI;have LWi : y9 l.prog w K mg base 3 _ _ _ := zJf T S15 (PySem.W.mg_of X G y0) (PySem.W.mg_of X G y1) XD.n2 x1c TA;have BE : y9 l.prog w K mg base 4 _ _ _ := zHm T S16 LWi;have LA : y9 l.prog w K mg base 4 _ _ _ := zHk T S17 NP LWi;have LB : y9 l.prog w K mg base 4 _ _ _ := zEs T S17 NP NB LWi;have TG : Def l.prog w K mg base 4 _ _ _ := zEi T S18 NP AP TA WP;have TB : y9 l.prog w K mg base 4 _ _ _ := zAh T S18 XD.n5 x1e NP NB AP TA WP;have TN : y9 l.prog w K mg base 4 _ _ _ := zAg T S18 XD.n5 x1e NP AB TA WP;have LO : y9 l.prog w K mg base 4 _ _ _ := zAo S19 TQ;have DT : y9 l.prog w K mg base 5 _ _ _ := zvg S20 LO;have RB : y9 l.prog w K mg base 2 _ _ _ := zEk XD.n7 x1f S21 W1;have CC : y9 l.prog w K mg base 3 _ _ _ := zri S22 RB;have FC : y9 l.prog w K mg base 3 _ _ _ := zrh S23 RB;have PK : y9 l.prog w K mg base 4 _ _ _ := zEl T XD.n4 x1d S24 TQ;have IN : Def l.prog w K mg base 1 _ _ _ := zAq T (PySem.W.mg_of X G y2) (PySem.W.mg_of X G y3) S25;have IM : Def l.prog w K mg base 1 _ _ _ := zvf T (PySem.W.mg_of X G y4) (PySem.W.mg_of X G y5) S26;have FO : Def l.prog w K mg base 1 _ _ _ := zEt T DKK S27;have FI : Def l.prog w K mg base 2 _ _ _ := zEu DKK S28 IN;have WO : y9 l.prog w K mg base 3 _ _ _ := zAf T DKK XD.n8 x1g S29 FO FI;have MB : y9 l.prog w K mg base 6 _ _ _ := zvd (c := (zwz C0 C1 C2 C3 C4 C5 C6 C7 C8 C9)) S30 RW LO DT BE LA LB PK TB TN TG;have TO : y9 l.prog w K mg base 4 _ _ _ := zuz (c := (zwz C0 C1 C2 C3 C4 C5 C6 C7 C8 C9)) T S31 WX CC FC;have OT : v9 l.prog w K mg base (CXq l.prog w) 2 fDT _ _ (zhg CD (zwz C0 C1 C2 C3 C4 C5 C6 C7 C8 C9)) := ztz T DCC XD.n9 x1h (PySem.W.mg_of X G y5) (vC (st := jG) lDT cDT kDT) IM;have OY : v9 l.prog w K mg base (CXq l.prog w) 7 fDS _ _ (kR K CD (zwz C0 C1 C2 C3 C4 C5 C6 C7 C8 C9)) := zDt T DCC (vC (st := zkh) lDS cDS kDS) ⟨aDT, iDT, kDT⟩ OT ((vC (st := jG) lDT cDT kDT).binds fun _ _ _ _ _ _ => zsm (fun _ _ _ => rfl)) WO FO TO MB;have BS := (vC (K := K) (st := zkh) lDS cDS kDS).binds (ps := ["self", "row"]) fun _ _ _ _ _ _ => j9 (fun _ _ => rfl);have AT : Def l.prog w K mg base 1 _ _ _ := zJg T S32;have LX : Def l.prog w K mg base 1 _ _ _ := zEp T S33;have L1 : Def l.prog w K mg base 1 _ _ _ := zEv S34;have L2 : Def l.prog w K mg base 1 _ _ _ := zEq T S35;have L3 : Def l.prog w K mg base 1 _ _ _ := zEw S36;have L4 : Def l.prog w K mg base 1 _ _ _ := zAj T S37;have KI : zBd l.prog w K mg base 1 _ _ _ := zAp T XD S38;have DU : Def l.prog w K mg base 1 _ _ _ := zHl S39;have RF : Def l.prog w K mg base 8 _ _ _ := zrf XD DCC S40 ⟨aDS, iDS, kDS⟩ OY BS KI DU;have RO : Def l.prog w K mg base 2 _ _ _ := zHj S41 L1 L2 L3 L4;exact zDu (vC (st := zmc) l42 c42 k42) T DCC ⟨aDS, iDS, kDS⟩ OY BS AT LX RO RF
theorem walk {l : PySem.W.OpenLaw} {q : Program} {loose : List Str} {XP : (Str -> Option Value) -> Heap -> Prop} {YP : World -> Heap -> Prop} {d : DefRec} {K : Params -> PySem.W.Frag} (hn : l.most = some 63) (hdf : d.params.defaults = [])
  (hY : ∀ (w : World) (h : Heap), YP w h -> (K w.params).In h)
  (F : ∀ (w : World) (mg : Str -> Option Value) (fa : Addr) (h : Heap), (K w.params).In h -> h.Ns mainGlobals mg -> mg d.name = some (.ref fa) ->
   ∃ fd : FuncData, (∀ (s : Shared) (u : Value), BindsTo s fd ⟨[u], []⟩ [("_law_script", u)]) /\ ∀ base : Heap, (K w.params).In base -> base.Ns mainGlobals mg -> v9 l.prog w (K w.params) mg base CX0 9 fa fd ["_law_script"] (zru (K w.params))) :
  PySem.W.WalkO q loose XP YP l.row.toRowW d [] (fun f vs => PySem.call f vs) :=
 L2.walk_of (n := 63) (k := 9) (x := "_law_script") (CX := fun _ => CX0) (sp := fun w => zru (K w.params)) hn (by decide) hdf ⟨rfl, by decide, by decide⟩ hY F (fun _ _ a ns hl _ hS => ⟨a, ns, rfl, hS, hl, fun _ => rfl⟩) fun _ _ _ _ _ z => z
end My
def PySem.W.Fast.tw10345040507678012953 : Unit := ()
def PySem.W.Fast.tw11202109071874885836 : Unit := ()
def PySem.W.Fast.tw11897265545605711335 : Unit := ()
def PySem.W.Fast.tw12004495471292898303 : Unit := ()
def PySem.W.Fast.tw12381257971017453993 : Unit := ()
def PySem.W.Fast.tw12541729056952021712 : Unit := ()
def PySem.W.Fast.tw12933936317011981433 : Unit := ()
def PySem.W.Fast.tw131217834522325890 : Unit := ()
def PySem.W.Fast.tw13598678223873471068 : Unit := ()
def PySem.W.Fast.tw1410621301250299587 : Unit := ()
def PySem.W.Fast.tw14402520439538775222 : Unit := ()
def PySem.W.Fast.tw14570231408152953934 : Unit := ()
def PySem.W.Fast.tw14692935531934061755 : Unit := ()
def PySem.W.Fast.tw14945345629241895218 : Unit := ()
def PySem.W.Fast.tw15391888494899784014 : Unit := ()
def PySem.W.Fast.tw15536343404801125930 : Unit := ()
def PySem.W.Fast.tw15689541607451554601 : Unit := ()
def PySem.W.Fast.tw16099524065869138324 : Unit := ()
def PySem.W.Fast.tw16185135970030834615 : Unit := ()
def PySem.W.Fast.tw16337074703748056316 : Unit := ()
def PySem.W.Fast.tw16372826946318853963 : Unit := ()
def PySem.W.Fast.tw17185232500995230438 : Unit := ()
def PySem.W.Fast.tw17458972568889502869 : Unit := ()
def PySem.W.Fast.tw17707507008966733937 : Unit := ()
def PySem.W.Fast.tw17720227253253695184 : Unit := ()
def PySem.W.Fast.tw17847149930497628154 : Unit := ()
def PySem.W.Fast.tw18001355406382734217 : Unit := ()
def PySem.W.Fast.tw18113249189815843853 : Unit := ()
def PySem.W.Fast.tw2131980977130227966 : Unit := ()
def PySem.W.Fast.tw261065418318361914 : Unit := ()
def PySem.W.Fast.tw3393114486119101999 : Unit := ()
def PySem.W.Fast.tw3481388850348335330 : Unit := ()
def PySem.W.Fast.tw3605074013334105242 : Unit := ()
def PySem.W.Fast.tw3840285982434239114 : Unit := ()
def PySem.W.Fast.tw4136822967334324242 : Unit := ()
def PySem.W.Fast.tw4252882985305605054 : Unit := ()
def PySem.W.Fast.tw4339560109373516722 : Unit := ()
def PySem.W.Fast.tw5002442510717615835 : Unit := ()
def PySem.W.Fast.tw5235548153019176595 : Unit := ()
def PySem.W.Fast.tw5750414824484555644 : Unit := ()
def PySem.W.Fast.tw5916483244346906893 : Unit := ()
def PySem.W.Fast.tw6507973042612051184 : Unit := ()
def PySem.W.Fast.tw6534900426243331559 : Unit := ()
def PySem.W.Fast.tw6565595790904917166 : Unit := ()
def PySem.W.Fast.tw6838564842050324172 : Unit := ()
def PySem.W.Fast.tw6860706215848055870 : Unit := ()
def PySem.W.Fast.tw6979040414004331186 : Unit := ()
def PySem.W.Fast.tw727745787169273494 : Unit := ()
def PySem.W.Fast.tw7437106807886548780 : Unit := ()
def PySem.W.Fast.tw7648242953353689466 : Unit := ()
def PySem.W.Fast.tw7694220432758499781 : Unit := ()
def PySem.W.Fast.tw7866713855276658237 : Unit := ()
def PySem.W.Fast.tw8006467111421339747 : Unit := ()
def PySem.W.Fast.tw8717845614994748140 : Unit := ()
def PySem.W.Fast.tw9256560142374545615 : Unit := ()
def PySem.W.Fast.tw9608984401254340049 : Unit := ()
def PySem.W.Fast.tw9614120431196651609 : Unit := ()
def PySem.W.Fast.tw9842188435444721865 : Unit := ()
def PySem.W.Fast.tw9849364351228920904 : Unit := ()
def PySem.W.Fast.tw9959420679808171863 : Unit := ()
open PySem PySem.W PyProof.Rows
set_option maxRecDepth 100000 in
set_option maxHeartbeats 0 in
theorem PySem.Challenge.cw_manycounts_k92_desk_refused_holds : PySem.Challenge.rw_manycounts_k92_desk_refused.Holds := by
 w_on; o_law; k_head; (case hw => w_witness2)
 k_fill
 refine My.walk (l := PySem.Challenge.rw_manycounts_k92_desk_refused) rfl rfl (fun w h Y => PySem.W.kIn_of Y) ?F;case F =>
  intro w mg fa h KX G hmg
  refine' My.all_mk KX G hmg ?d0 ?d1 ?d2 ?d3 ?d4 ?d5 ?d6 ?d7 ?d8 ?d9 ?d10 ?d11 ?d12 ?d13 ?d14 ?d15 ?d16 ?d17 ?d18 ?d19 ?d20 ?d21 ?d22 ?d23 ?d24 ?d25 ?d26 ?d27 ?d28 ?d29 ?d30 ?d31 ?d32 ?d33 ?d34 ?d35 ?d36 ?d37 ?d38 ?d39 ?d40 ?d41 ?a42 ?l42 ?c42 ?k42 ?z0 ?z1 ?z2 ?z3 ?z4 ?z5 ?z6 ?z7 ?z8 ?z9 ?z10 ?z11 ?z12 ?z13 ?z14 ?z15 ?z16 ?z17 ?y0 ?y1 ?y2 ?y3 ?y4 ?y5 ?q0 ?q1 ?q2 ?q3 ?q4 ?q5 ?q6 ?q7 ?q8 ?q9 ?qo0 ?qo1 ?qo2 ?qo3 ?qo4 ?qw ?qD ?mF ?mC ?x1 ?x2 ?s1 ?f1 ?nNI ?sNI ?aNI ?lNI ?cNI ?kNI ?nNJ ?sNJ ?aNJ ?lNJ ?cNJ ?kNJ ?lF ?lC ?kF ?kC ?sF ?sC ?bF ?bC ?pgD ?hdD ?poD ?saD ?mkD ?kcD ?nD ?aDI ?iDI ?lDI ?cDI ?kDI ?aDS ?iDS ?lDS ?cDS ?kDS ?aDT ?iDT ?lDT ?cDT ?kDT
  case d0 => exact My.fa_mk (by k_is) (by k_is) (by k_is) (by k_is)
  case d1 => exact My.fa_mk (by k_is) (by k_is) (by k_is) (by k_is)
  case d2 => exact My.fa_mk (by k_is) (by k_is) (by k_is) (by k_is)
  case d3 => exact My.fa_mk (by k_is) (by k_is) (by k_is) (by k_is)
  case d4 => exact My.fa_mk (by k_is) (by k_is) (by k_is) (by k_is)
  case d5 => exact My.fa_mk (by k_is) (by k_is) (by k_is) (by k_is)
  case d6 => exact My.fa_mk (by k_is) (by k_is) (by k_is) (by k_is)
  case d7 => exact My.fa_mk (by k_is) (by k_is) (by k_is) (by k_is)
  case d8 => exact My.fa_mk (by k_is) (by k_is) (by k_is) (by k_is)
  case d9 => exact My.fa_mk (by k_is) (by k_is) (by k_is) (by k_is)
  case d10 => exact My.fa_mk (by k_is) (by k_is) (by k_is) (by k_is)
  case d11 => exact My.fa_mk (by k_is) (by k_is) (by k_is) (by k_is)
  case d12 => exact My.fa_mk (by k_is) (by k_is) (by k_is) (by k_is)
  case d13 => exact My.fa_mk (by k_is) (by k_is) (by k_is) (by k_is)
  case d14 => exact My.fa_mk (by k_is) (by k_is) (by k_is) (by k_is)
  case d15 => exact My.fa_mk (by k_is) (by k_is) (by k_is) (by k_is)
  case d16 => exact My.fa_mk (by k_is) (by k_is) (by k_is) (by k_is)
  case d17 => exact My.fa_mk (by k_is) (by k_is) (by k_is) (by k_is)
  case d18 => exact My.fa_mk (by k_is) (by k_is) (by k_is) (by k_is)
  case d19 => exact My.fa_mk (by k_is) (by k_is) (by k_is) (by k_is)
  case d20 => exact My.fa_mk (by k_is) (by k_is) (by k_is) (by k_is)
  case d21 => exact My.fa_mk (by k_is) (by k_is) (by k_is) (by k_is)
  case d22 => exact My.fa_mk (by k_is) (by k_is) (by k_is) (by k_is)
  case d23 => exact My.fa_mk (by k_is) (by k_is) (by k_is) (by k_is)
  case d24 => exact My.fa_mk (by k_is) (by k_is) (by k_is) (by k_is)
  case d25 => exact My.fa_mk (by k_is) (by k_is) (by k_is) (by k_is)
  case d26 => exact My.fa_mk (by k_is) (by k_is) (by k_is) (by k_is)
  case d27 => exact My.fa_mk (by k_is) (by k_is) (by k_is) (by k_is)
  case d28 => exact My.fa_mk (by k_is) (by k_is) (by k_is) (by k_is)
  case d29 => exact My.fa_mk (by k_is) (by k_is) (by k_is) (by k_is)
  case d30 => exact My.fa_mk (by k_is) (by k_is) (by k_is) (by k_is)
  case d31 => exact My.fa_mk (by k_is) (by k_is) (by k_is) (by k_is)
  case d32 => exact My.fa_mk (by k_is) (by k_is) (by k_is) (by k_is)
  case d33 => exact My.fa_mk (by k_is) (by k_is) (by k_is) (by k_is)
  case d34 => exact My.fa_mk (by k_is) (by k_is) (by k_is) (by k_is)
  case d35 => exact My.fa_mk (by k_is) (by k_is) (by k_is) (by k_is)
  case d36 => exact My.fa_mk (by k_is) (by k_is) (by k_is) (by k_is)
  case d37 => exact My.fa_mk (by k_is) (by k_is) (by k_is) (by k_is)
  case d38 => exact My.fa_mk (by k_is) (by k_is) (by k_is) (by k_is)
  case d39 => exact My.fa_mk (by k_is) (by k_is) (by k_is) (by k_is)
  case d40 => exact My.fa_mk (by k_is) (by k_is) (by k_is) (by k_is)
  case d41 => exact My.fa_mk (by k_is) (by k_is) (by k_is) (by k_is)
  (case a42 => k_is); (case l42 => k_is); (case c42 => k_is); (case k42 => k_is)
  (case z0 => k_is); (case z1 => k_is); (case z2 => k_is); (case z3 => k_is)
  (case z4 => k_is); (case z5 => k_is); (case z6 => k_is); (case z7 => k_is)
  (case z8 => k_is); (case z9 => k_is); (case z10 => k_is); (case z11 => k_is)
  (case z12 => k_is); (case z13 => k_is); (case z14 => k_is); (case z15 => k_is)
  (case z16 => k_is); (case z17 => k_is); (case y0 => k_is); (case y1 => k_is)
  (case y2 => k_is); (case y3 => k_is); (case y4 => k_is); (case y5 => k_is)
  (case q0 => k_is)
  (case q1 => k_is)
  (case q2 => k_is)
  (case q3 => k_is)
  (case q4 => k_is)
  (case q5 => k_is)
  (case q6 => k_is)
  (case q7 => k_is)
  (case q8 => k_is)
  (case q9 => k_is)
  (case qo0 => k_is)
  (case qo1 => k_is)
  (case qo2 => k_is)
  (case qo3 => k_is)
  (case qo4 => k_is)
  (case qw => k_is)
  (case qD => k_is)
  (case mF => k_is)
  (case mC => k_is)
  (case x1 => kernel_rfl)
  (case x2 => kernel_rfl)
  (case s1 => kernel_rfl)
  (case f1 => kernel_rfl)
  (case nNI => k_is)
  (case sNI => k_is)
  (case aNI => k_is)
  (case lNI => k_is)
  (case cNI => k_is)
  (case kNI => k_is)
  (case nNJ => k_is)
  (case sNJ => k_is)
  (case aNJ => k_is)
  (case lNJ => k_is)
  (case cNJ => k_is)
  (case kNJ => k_is)
  (case lF => k_is)
  (case lC => k_is)
  (case kF => k_keys)
  (case kC => k_keys)
  (case sF => rfl)
  (case sC => rfl)
  (case bF => kernel_rfl)
  (case bC => kernel_rfl)
  (case pgD => k_is)
  (case hdD => k_is)
  (case poD => k_is)
  (case saD => k_is)
  (case mkD => k_is)
  (case kcD => k_is)
  (case nD => k_is)
  (case aDI => k_is)
  (case iDI => k_is)
  (case lDI => k_is)
  (case cDI => k_is)
  (case kDI => k_is)
  (case aDS => k_is)
  (case iDS => k_is)
  (case lDS => k_is)
  (case cDS => k_is)
  (case kDS => k_is)
  (case aDT => k_is)
  (case iDT => k_is)
  (case lDT => k_is)
  (case cDT => k_is)
  (case kDT => k_is)
