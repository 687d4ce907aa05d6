/-
  Layer 7 and what it stands on, part 12 (RingAt RowT BxA StrMap ObjD RowW).
-/
import Derived.Test.YteafcaambnfdoaaGreatDoorPi3
import Derived.Maps.AppendAt
import Derived.Laws.AppendOwnNone
import Derived.RangeFuncBox
import Derived.WalkKit
import Derived.MapKept
import GoSem.Builtin.Len
namespace Go.Proofs.YteafcaambnfdoaaGreatDoor
section
open Go Go.RowKit
structure Only (R : Nat → Prop) (w w' : World) : Prop where
 os : w'.os = w.os
 tape : w'.tape = w.tape
 output : w'.output = w.output
 size : w.heap.size ≤ w'.heap.size
 block : ∀ k, k < w.heap.size → ¬ R k → w'.heap[k]? = w.heap[k]?
theorem Only.refl (R : Nat → Prop) (w : World) : Only R w w := ⟨rfl, rfl, rfl, Nat.le_refl _, fun _ _ _ => rfl⟩
theorem Only.trans {R R' : Nat → Prop} {a b c : World} (h : Only R a b) (k : Only R' b c) (hR : ∀ i, R' i → R i ∨ a.heap.size ≤ i) : Only R a c :=
 ⟨k.os.trans h.os, k.tape.trans h.tape, k.output.trans h.output, Nat.le_trans h.size k.size, fun i hi hn => (k.block i (Nat.lt_of_lt_of_le hi h.size) (fun hr => (hR i hr).elim hn (fun h2 => by omega))).trans (h.block i hi hn)⟩
theorem Only.mono {R R' : Nat → Prop} {a b : World} (h : Only R a b) (hR : ∀ i, R i → R' i ∨ a.heap.size ≤ i) : Only R' a b := ⟨h.os, h.tape, h.output, h.size, fun i hi hn => h.block i hi (fun hr => (hR i hr).elim hn (fun h2 => by omega))⟩
theorem Only.of_below {R : Nat → Prop} {a b : World} (h : Below a.heap.size a b) : Only R a b := ⟨h.os, h.tape, h.output, h.size, fun i hi _ => h.block i hi⟩
theorem Only.of_grown {R : Nat → Prop} {a b : World} {row : Option Nat} (h : a.grownBy b row) (hr : ∀ k, row = some k → R k) : Only R a b := ⟨h.os, h.tape, h.output, h.size, fun i hi hn => h.block i hi (fun e => hn (hr i e.symm))⟩
theorem Only.alloc {R : Nat → Prop} {a b : World} (h : Only R a b) (o : Obj) : Only R a (b.alloc o) := h.trans (R' := fun _ => False) (Only.of_below ((Below.refl _ b).alloc (Nat.le_refl _) o)) (fun _ h => h.elim)
theorem Only.set {R : Nat → Prop} {a b : World} (h : Only R a b) {p : Addr} (hp : R p.block ∨ a.heap.size ≤ p.block) (u : Value) : Only R a (b.setCell p u) :=
 h.trans (R' := fun i => i = p.block) ⟨rfl, rfl, rfl, by simp [World.setCell], fun i _ hn => Below.heap_setCell b p u i hn⟩ (fun i e => by rw [e]; exact hp)
theorem Only.below {R : Nat → Prop} {a b : World} (h : Only R a b) {B : Nat} (hB : B ≤ a.heap.size) (hR : ∀ i, R i → B ≤ i) : Below B a b :=
 ⟨h.os, h.tape, h.output, h.size, fun i hi => h.block i (by omega) (fun hr => by have := hR i hr; omega)⟩
theorem Only.cell {R : Nat → Prop} {a b : World} (h : Only R a b) {p : Addr} {v : Value} (hc : a.cell? p = some v) (hn : ¬ R p.block) : b.cell? p = some v :=
 (World.cell?_of_block (w := a) (h.block p.block (World.block_lt_of_cell? _ _ hc) hn)).trans hc
section
variable {w : World} {b : Nat} {t : TypeId} {x y z : Value}
def Bx3 (w : World) (g : Nat) (t : TypeId) (x y z : Value) : Prop := w.heap[g]? = some (.cells #[x, y, z] t (0, 0))
end
section
variable {α : Type} (V : α → Value)
def RdV (w : World) (A : Option Addr) (ls : List α) : Prop := 0 < ls.length → ∃ g o, A = some ⟨g, o, none⟩ ∧ g < w.heap.size ∧ ∀ i x, ls[i]? = some x → w.cell? ⟨g, o + i, none⟩ = some (V x)
variable {V}
theorem run_append_V {P : Program} (hV : ∀ x : α, (V x).oneCell' = true) (w : World) (base : Nat) (t ty e : TypeId) (i : TypeInfo) (z : Value) (bytes : Nat) (ht : P.underlying t = some (.slice e)) (hi : P.info? e = some i) (hz : i.zero = some z) (hsize : i.size = 1) (hby : i.bytes = bytes) (hzs : z.cells.size = 1) (hb16 : bytes ≤ 16)
  (v : Value) (n : Nat) (xs : List α) (hn : n = xs.length) (hown : w.ownsRow base e 1 v n (xs.map V)) (A : Option Addr) (m c : Nat) (ms : List α) (hm : m = ms.length) (hA : A = none → c = 0) (hR : RdV V w A ms) (hb : xs.length + ms.length ≤ 1099511627776) (hbase : base ≤ w.heap.size) :
  ∃ v' w', (Builtin.append_ #[t, t] ty #[v, .slice A m c]).run P w = .ok v' w' ∧ w'.ownsRow base e 1 v' (n + m) ((xs ++ ms).map V) ∧ w.grownBy w' v.ownBlock ∧ (v'.ownBlock = v.ownBlock ∨ v'.ownBlock = some w.heap.size) := by
 subst hn; subst hm
 rw [List.map_append]
 rcases A with _ | ad
 ·obtain rfl := hA rfl
  have h0 : ms = [] := by
   by_cases hn : 0 < ms.length
   ·obtain ⟨_, _, e, _⟩ := hR hn; cases e
   ·exact List.eq_nil_of_length_eq_zero (by omega)
  subst h0
  exact ⟨v, w, run_append_owned_none (P := P) (w := w) base t ty e i 1 ht hi v xs.length (xs.map V) hown, by simpa using hown, World.grownBy.refl w _, .inl rfl⟩
 ·obtain ⟨v', w', hr, h2, h3, _, h5⟩ := run_append_own_at (P := P) w base t ty e i z 1 bytes ht hi hz hsize hby hzs (by decide) v xs.length (xs.map V) hown ad ms.length c (ms.map V) (by rw [List.length_map]; omega) (by
   intro j u hu
   have hj : j < ms.length := by
    have := (List.getElem?_eq_some_iff.1 hu).1
    rwa [List.length_map] at this
   obtain ⟨g, o, e, _, hc⟩ := hR (by omega)
   injection e with e
   subst e
   rw [List.getElem?_map, Option.map_eq_some_iff] at hu
   obtain ⟨x, hx, rfl⟩ := hu
   rw [Addr.add_lit]
   exact hc j x hx) (by
   intro u hu
   rw [List.mem_map] at hu
   obtain ⟨x, _, rfl⟩ := hu
   exact hV x) (by unfold maxLen; omega) (by
   have := Nat.mul_le_mul_left (xs.length + ms.length) hb16
   omega) hbase
  exact ⟨v', w', hr, h2, h3, h5⟩
structure RingAt (V : α → Value) (e tS : TypeId) (w : World) (R : Nat → Prop) (b : Nat) (s : RS α) : Prop where
 ok : s.Ok
 ins : R b
 lt : ∀ k, R k → k < w.heap.size
 mem : ∃ v, w.heap[b]? = some (.cells #[.int .i64 (s.lim : Int), v, .int .i64 (s.i : Int)] tS (0, 0)) ∧ w.ownsRow 0 e 1 v s.l.length (s.l.map V) ∧ ∀ g, v.ownBlock = some g → R g
variable {e tS : TypeId} {w w' : World} {R : Nat → Prop} {b : Nat} {s : RS α}
theorem only_set (w : World) (p : Addr) (u : Value) : Only (fun k => k = p.block) w (w.setCell p u) := (Only.refl (fun k => k = p.block) w).set (.inl rfl) u
def RingTo (V : α → Value) (e tS : TypeId) (w : World) (R : Nat → Prop) (w' : World) (b : Nat) (s : RS α) : Prop := ∃ R', RingAt V e tS w' R' b s ∧ Only R w w' ∧ ∀ k, R' k → R k ∨ w.heap.size ≤ k
def RingIn (V : α → Value) (e tS : TypeId) (w W : World) (b : Nat) (s : RS α) : Prop := ∃ R, RingAt V e tS W R b s ∧ (∀ k, R k → w.heap.size ≤ k) ∧ Below w.heap.size w W
end
end
section
open Go Go.RowKit
set_option maxRecDepth 100000
section
variable {α : Type} {C : α → List Value} {k : Nat}
theorem flat_length (hC : ∀ x, (C x).length = k) (ls : List α) : (ls.flatMap C).length = ls.length * k := by
 induction ls with
 | nil => simp
 | cons x t ih => rw [List.flatMap_cons, List.length_append, ih, hC, List.length_cons, Nat.succ_mul, Nat.add_comm]
theorem flat_take (hC : ∀ x, (C x).length = k) (ls : List α) : ∀ n, (ls.take n).flatMap C = (ls.flatMap C).take (n * k) := by
 induction ls with
 | nil => simp
 | cons x t ih =>
  intro n
  cases n with
  | zero => simp
  | succ n => rw [List.take_succ_cons, List.flatMap_cons, List.flatMap_cons, ih, Nat.succ_mul, Nat.add_comm, List.take_append, hC, show k + n * k - k = n * k by omega, List.take_of_length_le (show (C x).length ≤ k + n * k by rw [hC]; omega)]
theorem flat_drop (hC : ∀ x, (C x).length = k) (ls : List α) : ∀ n, (ls.drop n).flatMap C = (ls.flatMap C).drop (n * k) := by
 induction ls with
 | nil => simp
 | cons x t ih =>
  intro n
  cases n with
  | zero => simp
  | succ n => rw [List.drop_succ_cons, List.flatMap_cons, ih, Nat.succ_mul, Nat.add_comm, List.drop_append, hC, show k + n * k - k = n * k by omega, List.drop_of_length_le (show (C x).length ≤ k + n * k by rw [hC]; omega), List.nil_append]
theorem flat_get (hC : ∀ x, (C x).length = k) {ls : List α} {i : Nat} {x : α} (hi : ls[i]? = some x) {j : Nat} {v : Value} (hj : (C x)[j]? = some v) : (ls.flatMap C)[i * k + j]? = some v := by
 have hjl := (List.getElem?_eq_some_iff.1 hj).1
 obtain ⟨hil, hx⟩ := List.getElem?_eq_some_iff.1 hi
 have h := flat_drop hC ls i
 rw [List.drop_eq_getElem_cons hil, hx, List.flatMap_cons] at h
 rw [← List.getElem?_drop, ← h, List.getElem?_append_left hjl]
 exact hj
def RowT (C : α → List Value) (w : World) (R : Nat → Prop) (A : Option Addr) (ls : List α) : Prop :=
 0 < ls.length → ∃ g o, A = some ⟨g, o, none⟩ ∧ R g ∧ g < w.heap.size ∧ ∀ j v, (ls.flatMap C)[j]? = some v → w.cell? ⟨g, o + j, none⟩ = some v
theorem RowT.mono {w : World} {R R' : Nat → Prop} {A : Option Addr} {ls : List α} (h : RowT C w R A ls) (hR : ∀ i, R i → R' i) : RowT C w R' A ls := fun hn => by
 obtain ⟨g, o, e, hr, hg, hc⟩ := h hn
 exact ⟨g, o, e, hR g hr, hg, hc⟩
theorem RowT.keep {w w' : World} {R R' : Nat → Prop} {A : Option Addr} {ls : List α} (h : RowT C w R A ls) (ho : Only R' w w') (hd : ∀ i, R i → ¬ R' i) : RowT C w' R A ls := fun hn => by
 obtain ⟨g, o, e, hr, hg, hc⟩ := h hn
 exact ⟨g, o, e, hr, Nat.lt_of_lt_of_le hg ho.size, fun j v hj => ho.cell (hc j v hj) (show ¬ R' g from hd g hr)⟩
theorem RowT.below {w w' : World} {R : Nat → Prop} {A : Option Addr} {ls : List α} (h : RowT C w R A ls) (hb : Below w.heap.size w w') : RowT C w' R A ls := h.keep (R' := fun _ => False) (Only.of_below hb) (fun _ _ h => h)
theorem RowT.take {w : World} {R : Nat → Prop} {A : Option Addr} {ls : List α} (hC : ∀ x, (C x).length = k) (h : RowT C w R A ls) (n : Nat) : RowT C w R A (ls.take n) := fun hn => by
 rw [List.length_take] at hn
 obtain ⟨g, o, e, hr, hg, hc⟩ := h (by omega)
 refine ⟨g, o, e, hr, hg, fun j v hj => hc j v ?_⟩
 rw [flat_take hC, List.getElem?_take] at hj
 split at hj
 ·exact hj
 ·cases hj
theorem rowT_of_own {w : World} {base e : Nat} {R : Nat → Prop} {A : Option Addr} {c n : Nat} {ls : List α} (h : w.ownsRow base e k (.slice A n c) ls.length (ls.flatMap C)) (hR : ∀ g, (Value.slice A n c).ownBlock = some g → R g) : RowT C w R A ls := fun hn => by
 rcases h.2 with ⟨hv, h0⟩ | ⟨g, cap, cur, hv, _, hh, hnc, hcm, _⟩
 ·omega
 ·injection hv with h1 h2 h3
  subst h1; subst h2; subst h3
  refine ⟨g, 0, rfl, hR g rfl, (Array.getElem?_eq_some_iff.1 hh).1, fun j v hj => ?_⟩
  have := h.cells (g := g) rfl j v hj
  rw [Addr.add_lit] at this
  exact this
end
end
section
open Go Go.RowKit
def BxA (w : World) (g : Nat) (t : TypeId) (vs : List Value) : Prop := w.heap[g]? = some (.cells vs.toArray t (0, 0))
section
variable {w w' : World} {b : Nat} {t : TypeId} {vs : List Value}
theorem BxA.lt (h : BxA w b t vs) : b < w.heap.size := (Array.getElem?_eq_some_iff.1 h).1
theorem BxA.c (h : BxA w b t vs) (i : Nat) {v : Value} (hv : vs[i]? = some v) : w.cell? ⟨b, i, none⟩ = some v := by
 simp [World.cell?, show w.heap[b]? = _ from h, hv]
theorem BxA.free (h : BxA w b t vs) (i : Nat) : w.frozen? ⟨b, i, none⟩ = false := by simp [World.frozen?, show w.heap[b]? = _ from h]
theorem BxA.keep {R : Nat → Prop} (h : BxA w b t vs) (ho : Only R w w') (hn : ¬ R b) : BxA w' b t vs := (ho.block b h.lt hn).trans h
theorem BxA.below (h : BxA w b t vs) (hb : Below w.heap.size w w') : BxA w' b t vs := (hb.block b h.lt).trans h
theorem BxA.new (w : World) (t : TypeId) (vs : List Value) : BxA (w.alloc (.cells vs.toArray t)) w.heap.size t vs := World.alloc_heap_new w _
theorem BxA.alloc (h : BxA w b t vs) (o : Obj) : BxA (w.alloc o) b t vs := h.below ((Below.refl _ w).alloc (Nat.le_refl _) o)
theorem BxA.other {g i : Nat} (h : BxA w b t vs) (hne : b ≠ g) (v : Value) : BxA (w.setCell ⟨g, i, none⟩ v) b t vs := (Below.heap_setCell w ⟨g, i, none⟩ v b (by simpa using hne)).trans h
theorem BxA.set (h : BxA w b t vs) (i : Nat) (v : Value) : BxA (w.setCell ⟨b, i, none⟩ v) b t (vs.set i v) := by
 obtain ⟨hlt, hk⟩ := Array.getElem?_eq_some_iff.1 h
 show (w.heap.modify b _)[b]? = _
 rw [Array.getElem?_eq_getElem (by rw [Array.size_modify]; exact hlt), Array.getElem_modify_self, hk]
 simp
end
end
section
open Go Go.RowKit
section
variable {α : Type}
def findP (k : ByteArray) : List (ByteArray × α) → Nat → Option (Nat × α)
 | [], _ => none
 | p :: ps, i => if p.1 = k then some (i, p.2) else findP k ps (i + 1)
def getP (ps : List (ByteArray × α)) (k : ByteArray) : Option α := (findP k ps 0).map Prod.snd
def putP (ps : List (ByteArray × α)) (k : ByteArray) (v : α) : List (ByteArray × α) := match findP k ps 0 with
 | none => ps ++ [(k, v)]
 | some (j, _) => ps.set j (k, v)
def delP (ps : List (ByteArray × α)) (k : ByteArray) : List (ByteArray × α) := match findP k ps 0 with
 | none => ps
 | some (j, _) => ps.eraseIdx j
theorem findP_at (k : ByteArray) : ∀ (ps : List (ByteArray × α)) (i j : Nat) (v : α), findP k ps i = some (j, v) → i ≤ j ∧ ps[j - i]? = some (k, v)
 | [], _, _, _, h => by cases h
 | p :: ps, i, j, v, h => by
  unfold findP at h
  split at h
  ·rename_i he
   injection h with h; injection h with h1 h2
   subst h1; subst h2
   refine ⟨Nat.le_refl _, ?_⟩
   rw [Nat.sub_self, List.getElem?_cons_zero, ← he]
  ·obtain ⟨h1, h2⟩ := findP_at k ps (i + 1) j v h
   refine ⟨by omega, ?_⟩
   rw [show j - i = j - (i + 1) + 1 by omega, List.getElem?_cons_succ]
   exact h2
theorem findP_none (k : ByteArray) : ∀ (ps : List (ByteArray × α)) (i : Nat), findP k ps i = none ↔ ∀ p ∈ ps, p.1 ≠ k
 | [], _ => by simp [findP]
 | p :: ps, i => by
  unfold findP
  split
  ·rename_i he
   simp [he]
  ·rename_i he
   rw [findP_none k ps (i + 1)]
   simp [he]
theorem getP_cons (p : ByteArray × α) (ps : List (ByteArray × α)) (k : ByteArray) : getP (p :: ps) k = if p.1 = k then some p.2 else getP ps k := by
 have hs : ∀ (ps : List (ByteArray × α)) (i j : Nat), (findP k ps i).map Prod.snd = (findP k ps j).map Prod.snd := by
  intro ps
  induction ps with
  | nil => intro i j; rfl
  | cons q qs ih =>
   intro i j
   unfold findP
   split
   ·rfl
   ·exact ih _ _
 unfold getP
 rw [findP]
 split
 ·rfl
 ·exact hs _ _ _
end
section
variable {α : Type} (V : α → Value)
def MapAt (w : World) (m : Nat) (ps : List (ByteArray × α)) : Prop := ∃ es c, w.heap[m]? = some (.map es c) ∧ es.toList.map (fun e => (e.key, e.val)) = ps.map (fun p => (Value.string p.1, V p.2)) ∧ MapKept.Stamped es c
variable {V}
theorem MapAt.lt {w : World} {m : Nat} {ps : List (ByteArray × α)} (h : MapAt V w m ps) : m < w.heap.size := by
 obtain ⟨es, c, h1, _⟩ := h
 exact (Array.getElem?_eq_some_iff.1 h1).1
theorem MapAt.of_block {w w' : World} {m : Nat} {ps : List (ByteArray × α)} (h : MapAt V w m ps) (hb : w'.heap[m]? = w.heap[m]?) : MapAt V w' m ps := by
 obtain ⟨es, c, h1, h2⟩ := h
 exact ⟨es, c, hb.trans h1, h2⟩
theorem MapAt.below {w w' : World} {m : Nat} {ps : List (ByteArray × α)} (h : MapAt V w m ps) (hb : Below w.heap.size w w') : MapAt V w' m ps := h.of_block (hb.block m h.lt)
theorem MapAt.keep {w w' : World} {m : Nat} {ps : List (ByteArray × α)} {R : Nat → Prop} (h : MapAt V w m ps) (ho : Only R w w') (hn : ¬ R m) : MapAt V w' m ps := h.of_block (ho.block m h.lt hn)
theorem MapAt.new (w : World) : MapAt V (w.alloc (.map #[] 0)) w.heap.size [] := ⟨#[], 0, World.alloc_heap_new w _, rfl, MapKept.stamped_empty 0⟩
theorem findNow_P (k : ByteArray) : ∀ (es : List MapEntry) (ps : List (ByteArray × α)) (i : Nat), es.map (fun e => (e.key, e.val)) = ps.map (fun p => (Value.string p.1, V p.2)) →
  Instr.findNow .string (.string k) es i = some ((findP k ps i).map fun x => (x.1, V x.2))
 | [], [], _, _ => rfl
 | [], _ :: _, _, h => by cases h
 | _ :: _, [], _, h => by cases h
 | e :: es, p :: ps, i, h => by
  rw [List.map_cons, List.map_cons] at h
  injection h with h1 h2
  injection h1 with h3 h4
  unfold Instr.findNow findP
  rw [h3]
  show (match some (k == p.1) with | some true => some (some (i, e.val)) | some false => Instr.findNow .string (.string k) es (i + 1) | none => none) = _
  by_cases he : p.1 = k
  ·rw [if_pos he, (MapKept.bytes_beq k p.1).2 he.symm, h4]
   rfl
  ·have hb : (k == p.1) = false := by
    cases hh : k == p.1
    ·rfl
    ·exact absurd ((MapKept.bytes_beq k p.1).1 hh).symm he
   rw [if_neg he, hb]
   exact findNow_P k es ps (i + 1) h2
variable {P : Program} {t kt et : TypeId}
theorem map_eraseIdxP {α β : Type} (f : α → β) (l : List α) (j : Nat) : (l.eraseIdx j).map f = (l.map f).eraseIdx j := by
 induction l generalizing j with
 | nil => rfl
 | cons x l ih => cases j with
  | zero => rfl
  | succ j => exact congrArg _ (ih j)
theorem check_str (hk : P.underlying kt = some .string) (e : Bool) (k : ByteArray) (w : World) : (Instr.checkKey e 10000 kt (.string k)).run P w = .ok () w := MapKept.run_checkKey (k := .string k) hk (by simp [MapKept.IsKey]) e 9999
theorem run_lookS (ht : P.underlying t = some (.map kt et)) (hk : P.underlying kt = some .string) {w : World} {m : Nat} {ps : List (ByteArray × α)} (h : MapAt V w m ps) (k : ByteArray) (v : α) (hf : getP ps k = some v) (ok : Bool) :
  (Instr.lookup t (.map (some m)) (.string k) ok).run P w = .ok (if ok then .tuple #[V v, .bool true] else V v) w := by
 obtain ⟨es, c, h1, h2, _⟩ := h
 unfold getP at hf
 cases hfi : findP k ps 0 with
 | none => rw [hfi] at hf; cases hf
 | some x =>
  rw [hfi] at hf
  injection hf with hf
  have hfn := findNow_P k es.toList ps 0 h2
  rw [hfi, Option.map_some, hf] at hfn
  cases ok <;> simp [Instr.lookup, run_underlying ht, MapKept.run_getObj_map h1, check_str hk, MapKept.run_findKey hk hfn, Result.andThen]
theorem run_lookS_none (ht : P.underlying t = some (.map kt et)) (hk : P.underlying kt = some .string) {w : World} {m : Nat} {ps : List (ByteArray × α)} (h : MapAt V w m ps) (k : ByteArray) (hf : getP ps k = none) (z : Value) (hz : (zeroValue et).run P w = .ok z w) (ok : Bool) :
  (Instr.lookup t (.map (some m)) (.string k) ok).run P w = .ok (if ok then .tuple #[z, .bool false] else z) w := by
 obtain ⟨es, c, h1, h2, _⟩ := h
 unfold getP at hf
 cases hfi : findP k ps 0 with
 | some x => rw [hfi] at hf; cases hf
 | none =>
  have hfn := findNow_P k es.toList ps 0 h2
  rw [hfi, Option.map_none] at hfn
  cases ok <;> simp [Instr.lookup, run_underlying ht, MapKept.run_getObj_map h1, check_str hk, MapKept.run_findKey hk hfn, hz, Result.andThen]
theorem run_putS (ht : P.underlying t = some (.map kt et)) (hk : P.underlying kt = some .string) {w : World} {m : Nat} {ps : List (ByteArray × α)} (h : MapAt V w m ps) (k : ByteArray) (v : α) :
  ∃ w', (Instr.mapUpdate t (.map (some m)) (.string k) (V v)).run P w = .ok () w' ∧ MapAt V w' m (putP ps k v) ∧ Only (fun i => i = m) w w' := by
 have hlt := h.lt
 obtain ⟨es, c, h1, h2, hst⟩ := h
 have hfn := findNow_P k es.toList ps 0 h2
 have honly : ∀ o : Obj, Only (fun i => i = m) w { w with heap := w.heap.setIfInBounds m o } := fun o => ⟨rfl, rfl, rfl, by simp, fun i hi hn => by simp [Ne.symm hn]⟩
 unfold putP
 cases hfi : findP k ps 0 with
 | none =>
  rw [hfi, Option.map_none] at hfn
  refine ⟨{ w with heap := w.heap.setIfInBounds m (.map (es.push ⟨.string k, V v, c⟩) (c + 1)) }, ?_, ⟨_, _, by simp [hlt] <;> first | rfl | exact ⟨rfl, rfl⟩, ?_, MapKept.stamped_push hst fun x hx e => ?_⟩, honly _⟩
  ·simp [Instr.mapUpdate, run_underlying ht, MapKept.run_getObj_map h1, check_str hk, MapKept.run_findKey hk hfn, MapKept.run_setObj_map _ h1, Result.andThen]
  ·simp [h2]
  ·have hm : (x.key, x.val) ∈ ps.map (fun p => (Value.string p.1, V p.2)) := by rw [← h2]; exact List.mem_map_of_mem (f := fun e : MapEntry => (e.key, e.val)) hx
   obtain ⟨p, hp, hpe⟩ := List.mem_map.1 hm
   injection hpe with hp1 _
   rw [e] at hp1
   injection hp1 with hp1
   exact (findP_none k ps 0).1 hfi p hp hp1
 | some x =>
  obtain ⟨j, u⟩ := x
  rw [hfi, Option.map_some] at hfn
  obtain ⟨_, hj⟩ := findP_at k ps 0 j u hfi
  rw [Nat.sub_zero] at hj
  have hj2 : (es.toList.map (fun e => (e.key, e.val)))[j]? = some (.string k, V u) := by rw [h2, List.getElem?_map, hj]; rfl
  rw [List.getElem?_map] at hj2
  cases hej : es.toList[j]? with
  | none => rw [hej] at hj2; cases hj2
  | some e =>
   rw [hej] at hj2
   injection hj2 with hj2
   injection hj2 with hj3 hj4
   have hea : es[j]? = some e := by simpa using hej
   refine ⟨{ w with heap := w.heap.setIfInBounds m (.map (es.modify j fun e => { e with key := .string k, val := V v }) c) }, ?_, ⟨es.modify j (fun e => { e with key := .string k, val := V v }), c, by simp [hlt], ?_, MapKept.stamped_modify hst j (fun e => { e with key := .string k, val := V v }) (fun _ _ => rfl) (fun e' _ he' => ?_)⟩, honly _⟩
   ·have hst : (Instr.keyThatStays (.string k) (.string k)).run P w = .ok (.string k) w := MapKept.run_keyThatStays (d := .string) (by simp [MapKept.IsKey])
    simp [Instr.mapUpdate, run_underlying ht, MapKept.run_getObj_map h1, check_str hk, MapKept.run_findKey hk hfn, hea, hj3, hst, MapKept.run_setObj_map _ h1, Result.andThen]
   ·rw [List.map_set, ← h2]
    apply List.ext_getElem?
    intro i
    simp only [List.getElem?_map, Array.getElem?_toList, Array.getElem?_modify, List.getElem?_set]
    by_cases hij : j = i
    ·subst hij
     have hlt2 : j < es.size := (Array.getElem?_eq_some_iff.1 hea).1
     simp [hlt2]
    ·simp [hij]
   ·rw [hea] at he'
    injection he' with he'
    rw [← he', hj3]
theorem run_delS (ht : P.underlying t = some (.map kt et)) (hk : P.underlying kt = some .string) (ty : TypeId) {w : World} {m : Nat} {ps : List (ByteArray × α)} (h : MapAt V w m ps) (k : ByteArray) :
  ∃ w', (Builtin.delete_ #[t, kt] ty #[.map (some m), .string k]).run P w = .ok (.tuple #[]) w' ∧ MapAt V w' m (delP ps k) ∧ Only (fun i => i = m) w w' := by
 have hlt := h.lt
 obtain ⟨es, c, h1, h2, hst⟩ := h
 have hfn := findNow_P k es.toList ps 0 h2
 have honly : ∀ o : Obj, Only (fun i => i = m) w { w with heap := w.heap.setIfInBounds m o } := fun o => ⟨rfl, rfl, rfl, by simp, fun i hi hn => by simp [Ne.symm hn]⟩
 unfold delP
 cases hfi : findP k ps 0 with
 | none =>
  rw [hfi, Option.map_none] at hfn
  refine ⟨{ w with heap := w.heap.setIfInBounds m (.map es c) }, ?_, ⟨es, c, by simp [hlt], h2, hst⟩, honly _⟩
  simp [Builtin.delete_, run_underlying ht, MapKept.run_getObj_map h1, check_str hk, MapKept.run_findKey hk hfn, MapKept.run_setObj_map _ h1, Result.andThen]
 | some x =>
  obtain ⟨j, u⟩ := x
  rw [hfi, Option.map_some] at hfn
  refine ⟨{ w with heap := w.heap.setIfInBounds m (.map (es.eraseIdxIfInBounds j) c) }, ?_, ⟨_, _, by simp [hlt] <;> first | rfl | exact ⟨rfl, rfl⟩, ?_, MapKept.stamped_erase hst j⟩, honly _⟩
  ·simp [Builtin.delete_, run_underlying ht, MapKept.run_getObj_map h1, check_str hk, MapKept.run_findKey hk hfn, MapKept.run_setObj_map _ h1, Result.andThen]
  ·obtain ⟨_, hj⟩ := findP_at k ps 0 j u hfi
   rw [Nat.sub_zero] at hj
   have hjl : j < es.size := by
    have h3 := congrArg List.length h2
    rw [List.length_map, List.length_map] at h3
    have := (List.getElem?_eq_some_iff.1 hj).1
    have h4 : es.toList.length = es.size := by simp
    omega
   show List.map _ (es.eraseIdxIfInBounds j).toList = List.map _ (ps.eraseIdx j)
   unfold Array.eraseIdxIfInBounds
   rw [dif_pos hjl, Array.toList_eraseIdx, map_eraseIdxP, map_eraseIdxP, h2]
end
end
section
open Go Go.RowKit
section
variable {T : Type} {L : World → (Nat → Prop) → (Nat → Prop) → Nat → T → Prop} {w w' : World} {O D : Nat → Prop} {b : Nat} {s : T}
structure ObjD (L : World → (Nat → Prop) → (Nat → Prop) → Nat → T → Prop) : Prop where
 keep : ∀ {w w' : World} {O D R' : Nat → Prop} {b : Nat} {s : T}, L w O D b s → Only R' w w' → (∀ k, D k → ¬ R' k) → L w' O D b s
 lt : ∀ {w : World} {O D : Nat → Prop} {b : Nat} {s : T}, L w O D b s → ∀ k, D k → k < w.heap.size
 sub : ∀ {w : World} {O D : Nat → Prop} {b : Nat} {s : T}, L w O D b s → ∀ k, O k → D k
theorem ObjD.below (h : ObjD L) (hl : L w O D b s) (hb : Below w.heap.size w w') : L w' O D b s := h.keep (R' := fun _ => False) hl (Only.of_below hb) (fun _ _ h => h)
def ToD (L : World → (Nat → Prop) → (Nat → Prop) → Nat → T → Prop) (w : World) (O D : Nat → Prop) (w' : World) (b : Nat) (s : T) : Prop :=
 ∃ O' D', L w' O' D' b s ∧ Only O w w' ∧ (∀ k, O' k → O k ∨ w.heap.size ≤ k) ∧ ∀ k, D' k → D k ∨ w.heap.size ≤ k
def InD (L : World → (Nat → Prop) → (Nat → Prop) → Nat → T → Prop) (w W : World) (b : Nat) (s : T) : Prop := ∃ O D, L W O D b s ∧ (∀ k, O k → w.heap.size ≤ k) ∧ Below w.heap.size w W
def CopD (L : World → (Nat → Prop) → (Nat → Prop) → Nat → T → Prop) (w : World) (O D : Nat → Prop) (w' : World) (b' : Nat) (s : T) : Prop :=
 ∃ O' D', L w' O' D' b' s ∧ (∀ k, O' k → w.heap.size ≤ k) ∧ (∀ k, D' k → (D k ∧ ¬ O k) ∨ w.heap.size ≤ k) ∧ Below w.heap.size w w'
end
end
section
open Go Go.RowKit
set_option maxRecDepth 100000
section
variable {α : Type} {V : α → Value}
def RowW (V : α → Value) (w : World) (R : Nat → Prop) (A : Option Addr) (ls : List α) : Prop :=
 0 < ls.length → ∃ g o, A = some ⟨g, o, none⟩ ∧ R g ∧ g < w.heap.size ∧ ∀ i x, ls[i]? = some x → w.cell? ⟨g, o + i, none⟩ = some (V x) ∧ w.frozen? ⟨g, o + i, none⟩ = false
theorem RowW.rd {w : World} {R : Nat → Prop} {A : Option Addr} {ls : List α} (h : RowW V w R A ls) : RdV V w A ls := fun hn => by
 obtain ⟨g, o, e, _, hg, hc⟩ := h hn
 exact ⟨g, o, e, hg, fun i x hi => (hc i x hi).1⟩
theorem RowW.drop {w : World} {R : Nat → Prop} {g o : Nat} {ls : List α} (h : RowW V w R (some ⟨g, o, none⟩) ls) (k : Nat) : RowW V w R (some ⟨g, o + k, none⟩) (ls.drop k) := fun hn => by
 rw [List.length_drop] at hn
 obtain ⟨g', o', e, hr, hg, hc⟩ := h (by omega)
 injection e with e
 injection e with e1 e2
 subst e1; subst e2
 refine ⟨g, o + k, rfl, hr, hg, fun i x hi => ?_⟩
 rw [List.getElem?_drop] at hi
 rw [Nat.add_assoc]
 exact hc (k + i) x hi
theorem RowW.set {w : World} {R : Nat → Prop} {g o : Nat} {ls : List α} (h : RowW V w R (some ⟨g, o, none⟩) ls) (i : Nat) (hi : i < ls.length) (y : α) : RowW V (w.setCell ⟨g, o + i, none⟩ (V y)) R (some ⟨g, o, none⟩) (ls.set i y) := fun _ => by
 obtain ⟨g', o', e, hr, hg, hc⟩ := h (by omega)
 injection e with e
 injection e with e1 e2
 subst e1; subst e2
 refine ⟨g, o, rfl, hr, by simpa [World.setCell] using hg, fun j x hj => ?_⟩
 have hjl : j < ls.length := by have := (List.getElem?_eq_some_iff.1 hj).1; simpa using this
 obtain ⟨c0, hc0⟩ : ∃ c0, ls[j]? = some c0 := ⟨_, List.getElem?_eq_getElem hjl⟩
 obtain ⟨q1, q2⟩ := hc j c0 hc0
 refine ⟨?_, (World.frozen?_setCell ..).trans q2⟩
 by_cases hji : j = i
 ·subst hji
  rw [List.getElem?_set_self hjl] at hj
  injection hj with hj
  subst hj
  exact World.cell?_setCell_same _ _ _ q1
 ·rw [List.getElem?_set_ne (fun e => hji e.symm)] at hj
  have hx := (hc j x hj).1
  have hne : (⟨g, o + i, none⟩ : Addr) ≠ ⟨g, o + j, none⟩ := by
   intro e
   injection e with _ e
   omega
  exact (World.cell?_setCell_other _ _ _ _ hne).trans hx
theorem rowW_of_own {w : World} {base e : Nat} {R : Nat → Prop} {A : Option Addr} {c n : Nat} {ls : List α} (h : w.ownsRow base e 1 (.slice A n c) ls.length (ls.map V)) (hR : ∀ g, (Value.slice A n c).ownBlock = some g → R g) : RowW V w R A ls := fun hn => by
 rcases h.2 with ⟨hv, h0⟩ | ⟨g, cap, cur, hv, _, hh, hnc, hcm, _⟩
 ·omega
 ·injection hv with h1 h2 h3
  subst h1; subst h2; subst h3
  refine ⟨g, 0, rfl, hR g rfl, (Array.getElem?_eq_some_iff.1 hh).1, fun i x hi => ⟨?_, ?_⟩⟩
  ·have := h.cells (g := g) rfl i (V x) (by simp [hi])
   rw [Addr.add_lit] at this
   exact this
  ·simp [World.frozen?, hh]
end
end
end Go.Proofs.YteafcaambnfdoaaGreatDoor
