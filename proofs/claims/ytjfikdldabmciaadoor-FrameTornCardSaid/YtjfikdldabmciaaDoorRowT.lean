/-
  Slices of structs (of k cells each) that begin anywhere, read as lists. An append onto a slice that has no room.
-/
import Derived.Test.YtjfikdldabmciaaDoorRingAt
namespace Go.Proofs.YtjfikdldabmciaaDoor
open Go Go.RowKit
set_option maxRecDepth 100000

section
variable {α : Type} {C : α → List Value} {k : Nat}
theorem flat_length (hC : ∀ x, (C x).length = k) (ls : List α) : (ls.flatMap C).length = ls.length * k := by
  induction ls with
  | nil => simp
  | cons x t ih => rw [List.flatMap_cons, List.length_append, ih, hC, List.length_cons, Nat.succ_mul, Nat.add_comm]
theorem flat_take (hC : ∀ x, (C x).length = k) (ls : List α) : ∀ n, (ls.take n).flatMap C = (ls.flatMap C).take (n * k) := by
  induction ls with
  | nil => simp
  | cons x t ih =>
    intro n
    cases n with
    | zero => simp
    | succ n => rw [List.take_succ_cons, List.flatMap_cons, List.flatMap_cons, ih, Nat.succ_mul, Nat.add_comm, List.take_append, hC, show k + n * k - k = n * k by omega, List.take_of_length_le (show (C x).length ≤ k + n * k by rw [hC]; omega)]
theorem flat_drop (hC : ∀ x, (C x).length = k) (ls : List α) : ∀ n, (ls.drop n).flatMap C = (ls.flatMap C).drop (n * k) := by
  induction ls with
  | nil => simp
  | cons x t ih =>
    intro n
    cases n with
    | zero => simp
    | succ n => rw [List.drop_succ_cons, List.flatMap_cons, ih, Nat.succ_mul, Nat.add_comm, List.drop_append, hC, show k + n * k - k = n * k by omega, List.drop_of_length_le (show (C x).length ≤ k + n * k by rw [hC]; omega), List.nil_append]
theorem flat_get (hC : ∀ x, (C x).length = k) {ls : List α} {i : Nat} {x : α} (hi : ls[i]? = some x) {j : Nat} {v : Value} (hj : (C x)[j]? = some v) : (ls.flatMap C)[i * k + j]? = some v := by
  have hjl := (List.getElem?_eq_some_iff.1 hj).1
  obtain ⟨hil, hx⟩ := List.getElem?_eq_some_iff.1 hi
  have h := flat_drop hC ls i
  rw [List.drop_eq_getElem_cons hil, hx, List.flatMap_cons] at h
  rw [← List.getElem?_drop, ← h, List.getElem?_append_left hjl]
  exact hj
/-- The slice at A reads as ls, and lies in a block of R. -/
def RowT (C : α → List Value) (w : World) (R : Nat → Prop) (A : Option Addr) (ls : List α) : Prop :=
  0 < ls.length → ∃ g o, A = some ⟨g, o, none⟩ ∧ R g ∧ g < w.heap.size ∧ ∀ j v, (ls.flatMap C)[j]? = some v → w.cell? ⟨g, o + j, none⟩ = some v
theorem RowT.mono {w : World} {R R' : Nat → Prop} {A : Option Addr} {ls : List α} (h : RowT C w R A ls) (hR : ∀ i, R i → R' i) : RowT C w R' A ls := fun hn => by
  obtain ⟨g, o, e, hr, hg, hc⟩ := h hn
  exact ⟨g, o, e, hR g hr, hg, hc⟩
theorem RowT.keep {w w' : World} {R R' : Nat → Prop} {A : Option Addr} {ls : List α} (h : RowT C w R A ls) (ho : Only R' w w') (hd : ∀ i, R i → ¬ R' i) : RowT C w' R A ls := fun hn => by
  obtain ⟨g, o, e, hr, hg, hc⟩ := h hn
  exact ⟨g, o, e, hr, Nat.lt_of_lt_of_le hg ho.size, fun j v hj => ho.cell (hc j v hj) (show ¬ R' g from hd g hr)⟩
theorem RowT.below {w w' : World} {R : Nat → Prop} {A : Option Addr} {ls : List α} (h : RowT C w R A ls) (hb : Below w.heap.size w w') : RowT C w' R A ls := h.keep (R' := fun _ => False) (Only.of_below hb) (fun _ _ h => h)
theorem RowT.take {w : World} {R : Nat → Prop} {A : Option Addr} {ls : List α} (hC : ∀ x, (C x).length = k) (h : RowT C w R A ls) (n : Nat) : RowT C w R A (ls.take n) := fun hn => by
  rw [List.length_take] at hn
  obtain ⟨g, o, e, hr, hg, hc⟩ := h (by omega)
  refine ⟨g, o, e, hr, hg, fun j v hj => hc j v ?_⟩
  rw [flat_take hC, List.getElem?_take] at hj
  split at hj
  · exact hj
  · cases hj
theorem RowT.drop {w : World} {R : Nat → Prop} {g o : Nat} {ls : List α} (hC : ∀ x, (C x).length = k) (h : RowT C w R (some ⟨g, o, none⟩) ls) (n : Nat) : RowT C w R (some ⟨g, o + n * k, none⟩) (ls.drop n) := fun hn => by
  rw [List.length_drop] at hn
  obtain ⟨g', o', e, hr, hg, hc⟩ := h (by omega)
  injection e with e
  injection e with e1 e2
  subst e1; subst e2
  refine ⟨g, o + n * k, rfl, hr, hg, fun j v hj => ?_⟩
  rw [flat_drop hC, List.getElem?_drop] at hj
  rw [Nat.add_assoc]
  exact hc (n * k + j) v hj
theorem rowT_of_own {w : World} {base e : Nat} {R : Nat → Prop} {A : Option Addr} {c n : Nat} {ls : List α} (h : w.ownsRow base e k (.slice A n c) ls.length (ls.flatMap C)) (hR : ∀ g, (Value.slice A n c).ownBlock = some g → R g) : RowT C w R A ls := fun hn => by
  rcases h.2 with ⟨hv, h0⟩ | ⟨g, cap, cur, hv, _, hh, hnc, hcm, _⟩
  · omega
  · injection hv with h1 h2 h3
    subst h1; subst h2; subst h3
    refine ⟨g, 0, rfl, hR g rfl, (Array.getElem?_eq_some_iff.1 hh).1, fun j v hj => ?_⟩
    have := h.cells (g := g) rfl j v hj
    rw [Addr.add_lit] at this
    exact this
/-- An append onto a slice that has no room: a new row. -/
theorem run_append_fullT {P : Program} (hC : ∀ x, (C x).length = k) (w : World) (t ty e : TypeId) (i : TypeInfo) (z : Value) (bytes : Nat) (ht : P.underlying t = some (.slice e)) (hi : P.info? e = some i) (hz : i.zero = some z) (hsize : i.size = k) (hby : i.bytes = bytes) (hzs : z.cells.size = k) (hb16 : bytes ≤ 64)
    (g o sc : Nat) (xs : List α) {R1 R2 : Nat → Prop} (hx : RowT C w R1 (some ⟨g, o, none⟩) xs) (A : Option Addr) (c : Nat) (ms : List α) (hm : 0 < ms.length) (hR : RowT C w R2 A ms) (hfull : sc < xs.length + ms.length) (hb : xs.length + ms.length ≤ 1099511627776) :
    ∃ c' w', (Builtin.append_ #[t, t] ty #[.slice (some ⟨g, o, none⟩) xs.length sc, .slice A ms.length c]).run P w = .ok (.slice (some ⟨w.heap.size, 0, none⟩) (xs.length + ms.length) c') w' ∧
      w'.ownsRow w.heap.size e k (.slice (some ⟨w.heap.size, 0, none⟩) (xs.length + ms.length) c') (xs.length + ms.length) ((xs ++ ms).flatMap C) ∧ Below w.heap.size w w' ∧ w'.heap.size = w.heap.size + 1 := by
  obtain ⟨g2, o2, rfl, _, _, hc2⟩ := hR hm
  subst hby
  have hbytes : (xs.length + ms.length) * i.bytes ≤ 140737488355328 := by
    have := Nat.mul_le_mul_left (xs.length + ms.length) hb16
    omega
  have hr := run_append_grow (P := P) w t ty e i z ht hi hz ⟨g, o, none⟩ xs.length sc (xs.flatMap C) (by rw [flat_length hC, hsize]) (fun j v hj => by
      have hjl := (List.getElem?_eq_some_iff.1 hj).1
      rw [flat_length hC] at hjl
      have hpos : 0 < xs.length := by
        cases xs with
        | nil => simp at hjl
        | cons => simp
      obtain ⟨g', o', e', _, _, hc⟩ := hx hpos
      injection e' with e'
      injection e' with e1 e2
      subst e1; subst e2
      rw [Addr.add_lit]
      exact hc j v hj) ⟨g2, o2, none⟩ ms.length c (ms.flatMap C) (by rw [flat_length hC, hsize]) (fun j v hj => by
      rw [Addr.add_lit]
      exact hc2 j v hj) hfull (by omega) (growslice_fits hfull hbytes)
  have hge := grownCap_ge w (xs.length + ms.length) sc e
  have hcm : grownCap w (xs.length + ms.length) sc e ≤ maxLen := grownCap_le_maxLen w _ sc e (by unfold maxLen; omega)
  have hll : (xs.flatMap C).length + (ms.flatMap C).length = (xs.length + ms.length) * k := by rw [flat_length hC, flat_length hC, Nat.add_mul]
  refine ⟨_, _, hr, ⟨by rw [List.flatMap_append, List.length_append, hll], .inr ⟨w.heap.size, _, _, rfl, Nat.le_refl _, heap_alloc_new w.drew _, hge, hcm, ?_, ?_⟩⟩, ⟨rfl, rfl, rfl, by simp, fun i hi => heap_alloc_old w.drew _ hi⟩, by simp⟩
  · rw [Array.size_append, Array.size_append, List.size_toArray, List.size_toArray, hll]
    simp only [size_zeroCells, hzs]
    rw [← Nat.add_mul]
    congr 1
    omega
  · simp only [Array.toList_append, List.flatMap_append]
    rw [← hll, ← List.length_append]
    exact List.take_left
end
end Go.Proofs.YtjfikdldabmciaaDoor
