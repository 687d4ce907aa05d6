/-
  Slices of one's own, whatever they begin at: they read as a list and may be stored into. An append onto a slice that has no room.
-/
import Derived.Test.YtjfikdldabmciaaDoorRingAt
namespace Go.Proofs.YtjfikdldabmciaaDoor
open Go Go.RowKit
set_option maxRecDepth 100000

section
variable {α : Type} {V : α → Value}
/-- The slice at A reads as ls, lies in a block of R, and may be stored into. -/
def RowW (V : α → Value) (w : World) (R : Nat → Prop) (A : Option Addr) (ls : List α) : Prop :=
  0 < ls.length → ∃ g o, A = some ⟨g, o, none⟩ ∧ R g ∧ g < w.heap.size ∧ ∀ i x, ls[i]? = some x → w.cell? ⟨g, o + i, none⟩ = some (V x) ∧ w.frozen? ⟨g, o + i, none⟩ = false
theorem RowW.rd {w : World} {R : Nat → Prop} {A : Option Addr} {ls : List α} (h : RowW V w R A ls) : RdV V w A ls := fun hn => by
  obtain ⟨g, o, e, _, hg, hc⟩ := h hn
  exact ⟨g, o, e, hg, fun i x hi => (hc i x hi).1⟩
theorem RowW.mono {w : World} {R R' : Nat → Prop} {A : Option Addr} {ls : List α} (h : RowW V w R A ls) (hR : ∀ k, R k → R' k) : RowW V w R' A ls := fun hn => by
  obtain ⟨g, o, e, hr, hg, hc⟩ := h hn
  exact ⟨g, o, e, hR g hr, hg, hc⟩
theorem frozen_of_block {w w' : World} {p : Addr} (h : w'.heap[p.block]? = w.heap[p.block]?) : w'.frozen? p = w.frozen? p := by unfold World.frozen?; rw [h]
theorem RowW.keep {w w' : World} {R R' : Nat → Prop} {A : Option Addr} {ls : List α} (h : RowW V w R A ls) (ho : Only R' w w') (hd : ∀ k, R k → ¬ R' k) : RowW V w' R A ls := fun hn => by
  obtain ⟨g, o, e, hr, hg, hc⟩ := h hn
  exact ⟨g, o, e, hr, Nat.lt_of_lt_of_le hg ho.size, fun i x hi => ⟨ho.cell (hc i x hi).1 (show ¬ R' g from hd g hr), (frozen_of_block (p := ⟨g, o + i, none⟩) (ho.block g hg (hd g hr))).trans (hc i x hi).2⟩⟩
theorem RowW.below {w w' : World} {R : Nat → Prop} {A : Option Addr} {ls : List α} (h : RowW V w R A ls) (hb : Below w.heap.size w w') : RowW V w' R A ls := h.keep (R' := fun _ => False) (Only.of_below hb) (fun _ _ h => h)
theorem RowW.take {w : World} {R : Nat → Prop} {A : Option Addr} {ls : List α} (h : RowW V w R A ls) (k : Nat) : RowW V w R A (ls.take k) := fun hn => by
  rw [List.length_take] at hn
  obtain ⟨g, o, e, hr, hg, hc⟩ := h (by omega)
  refine ⟨g, o, e, hr, hg, fun i x hi => hc i x ?_⟩
  rw [List.getElem?_take] at hi
  split at hi
  · exact hi
  · cases hi
theorem RowW.drop {w : World} {R : Nat → Prop} {g o : Nat} {ls : List α} (h : RowW V w R (some ⟨g, o, none⟩) ls) (k : Nat) : RowW V w R (some ⟨g, o + k, none⟩) (ls.drop k) := fun hn => by
  rw [List.length_drop] at hn
  obtain ⟨g', o', e, hr, hg, hc⟩ := h (by omega)
  injection e with e
  injection e with e1 e2
  subst e1; subst e2
  refine ⟨g, o + k, rfl, hr, hg, fun i x hi => ?_⟩
  rw [List.getElem?_drop] at hi
  rw [Nat.add_assoc]
  exact hc (k + i) x hi
/-- A thing is stored into the row. -/
theorem RowW.set {w : World} {R : Nat → Prop} {g o : Nat} {ls : List α} (h : RowW V w R (some ⟨g, o, none⟩) ls) (i : Nat) (hi : i < ls.length) (y : α) : RowW V (w.setCell ⟨g, o + i, none⟩ (V y)) R (some ⟨g, o, none⟩) (ls.set i y) := fun _ => by
  obtain ⟨g', o', e, hr, hg, hc⟩ := h (by omega)
  injection e with e
  injection e with e1 e2
  subst e1; subst e2
  refine ⟨g, o, rfl, hr, by simpa [World.setCell] using hg, fun j x hj => ?_⟩
  have hjl : j < ls.length := by have := (List.getElem?_eq_some_iff.1 hj).1; simpa using this
  obtain ⟨c0, hc0⟩ : ∃ c0, ls[j]? = some c0 := ⟨_, List.getElem?_eq_getElem hjl⟩
  obtain ⟨q1, q2⟩ := hc j c0 hc0
  refine ⟨?_, (World.frozen?_setCell ..).trans q2⟩
  by_cases hji : j = i
  · subst hji
    rw [List.getElem?_set_self hjl] at hj
    injection hj with hj
    subst hj
    exact World.cell?_setCell_same _ _ _ q1
  · rw [List.getElem?_set_ne (fun e => hji e.symm)] at hj
    have hx := (hc j x hj).1
    have hne : (⟨g, o + i, none⟩ : Addr) ≠ ⟨g, o + j, none⟩ := by
      intro e
      injection e with _ e
      omega
    exact (World.cell?_setCell_other _ _ _ _ hne).trans hx
theorem rowW_of_own {w : World} {base e : Nat} {R : Nat → Prop} {A : Option Addr} {c n : Nat} {ls : List α} (h : w.ownsRow base e 1 (.slice A n c) ls.length (ls.map V)) (hR : ∀ g, (Value.slice A n c).ownBlock = some g → R g) : RowW V w R A ls := fun hn => by
  rcases h.2 with ⟨hv, h0⟩ | ⟨g, cap, cur, hv, _, hh, hnc, hcm, _⟩
  · omega
  · injection hv with h1 h2 h3
    subst h1; subst h2; subst h3
    refine ⟨g, 0, rfl, hR g rfl, (Array.getElem?_eq_some_iff.1 hh).1, fun i x hi => ⟨?_, ?_⟩⟩
    · have := h.cells (g := g) rfl i (V x) (by simp [hi])
      rw [Addr.add_lit] at this
      exact this
    · simp [World.frozen?, hh]
/-- An append onto a slice that has no room: a new row. -/
theorem run_append_full {P : Program} (w : World) (t ty e : TypeId) (i : TypeInfo) (z : Value) (bytes : Nat) (ht : P.underlying t = some (.slice e)) (hi : P.info? e = some i) (hz : i.zero = some z) (hsize : i.size = 1) (hby : i.bytes = bytes) (hzs : z.cells.size = 1) (hb16 : bytes ≤ 16)
    (g o sc : Nat) (xs : List α) (hx : RdV V w (some ⟨g, o, none⟩) xs) (A : Option Addr) (c : Nat) (ms : List α) (hm : 0 < ms.length) (hR : RdV V w A ms) (hfull : sc < xs.length + ms.length) (hb : xs.length + ms.length ≤ 1099511627776) :
    ∃ c' w', (Builtin.append_ #[t, t] ty #[.slice (some ⟨g, o, none⟩) xs.length sc, .slice A ms.length c]).run P w = .ok (.slice (some ⟨w.heap.size, 0, none⟩) (xs.length + ms.length) c') w' ∧
      w'.ownsRow w.heap.size e 1 (.slice (some ⟨w.heap.size, 0, none⟩) (xs.length + ms.length) c') (xs.length + ms.length) ((xs ++ ms).map V) ∧ Below w.heap.size w w' ∧ w'.heap.size = w.heap.size + 1 := by
  obtain ⟨g2, o2, rfl, _, hc2⟩ := hR.at_ hm
  subst hby
  have hbytes : (xs.length + ms.length) * i.bytes ≤ 140737488355328 := by
    have := Nat.mul_le_mul_left (xs.length + ms.length) hb16
    omega
  have hr := run_append_grow (P := P) w t ty e i z ht hi hz ⟨g, o, none⟩ xs.length sc (xs.map V) (by rw [List.length_map, hsize, Nat.mul_one]) (fun j v hj => by
      rw [List.getElem?_map, Option.map_eq_some_iff] at hj
      obtain ⟨x, hj, rfl⟩ := hj
      have hjl := (List.getElem?_eq_some_iff.1 hj).1
      obtain ⟨g', o', e', _, hc⟩ := hx.at_ (by omega)
      injection e' with e'
      injection e' with e1 e2
      subst e1; subst e2
      rw [Addr.add_lit]
      exact hc j x hj) ⟨g2, o2, none⟩ ms.length c (ms.map V) (by rw [List.length_map, hsize, Nat.mul_one]) (fun j v hj => by
      rw [List.getElem?_map, Option.map_eq_some_iff] at hj
      obtain ⟨x, hj, rfl⟩ := hj
      rw [Addr.add_lit]
      exact hc2 j x hj) hfull (by omega) (growslice_fits hfull hbytes)
  have hge := grownCap_ge w (xs.length + ms.length) sc e
  have hcm : grownCap w (xs.length + ms.length) sc e ≤ maxLen := grownCap_le_maxLen w _ sc e (by unfold maxLen; omega)
  refine ⟨_, _, hr, ⟨by simp, .inr ⟨w.heap.size, _, _, rfl, Nat.le_refl _, heap_alloc_new w.drew _, hge, hcm, ?_, ?_⟩⟩, ⟨rfl, rfl, rfl, by simp, fun k hk => heap_alloc_old w.drew _ hk⟩, by simp⟩
  · simp only [Array.size_append, List.size_toArray, size_zeroCells, hzs, List.length_map]
    omega
  · simp only [Array.toList_append, List.append_assoc, List.map_append]
    rw [← List.append_assoc, show (xs.length + ms.length) * 1 = (xs.map V ++ ms.map V).length by simp]
    exact List.take_left
end
end Go.Proofs.YtjfikdldabmciaaDoor
