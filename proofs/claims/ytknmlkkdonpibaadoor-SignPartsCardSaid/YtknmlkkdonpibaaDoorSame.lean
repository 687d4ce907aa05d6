/-
  'same' of the statements; the document's own Clean.
-/
import Derived.Test.YtknmlkkdonpibaaDoorRefRunes
namespace Go.Proofs.YtknmlkkdonpibaaDoor
open Go Go.RowKit

/-- A slice of runes, and one of ints, that read as signs. -/
def Rd32 (w : World) (A : Option Addr) (rs : List Nat) : Prop := 0 < rs.length → ∃ g o, A = some ⟨g, o, none⟩ ∧ g < w.heap.size ∧ ∀ i, i < rs.length → w.cell? ⟨g, o + i, none⟩ = some (.int .i32 ((rs.getD i 0 : Nat) : Int))
def Rd64 (w : World) (A : Option Addr) (rs : List Nat) : Prop := 0 < rs.length → ∃ g o, A = some ⟨g, o, none⟩ ∧ g < w.heap.size ∧ ∀ i, i < rs.length → w.cell? ⟨g, o + i, none⟩ = some (.int .i64 ((rs.getD i 0 : Nat) : Int))
theorem Rd32.below {w w' : World} {A : Option Addr} {rs : List Nat} (h : Rd32 w A rs) (hb : Below w.heap.size w w') : Rd32 w' A rs := fun hn => by
  obtain ⟨g, o, e, hg, hc⟩ := h hn
  exact ⟨g, o, e, Nat.lt_of_lt_of_le hg hb.size, fun i hi => by rw [hb.cell (p := ⟨g, o + i, none⟩) hg]; exact hc i hi⟩
theorem Rd64.below {w w' : World} {A : Option Addr} {rs : List Nat} (h : Rd64 w A rs) (hb : Below w.heap.size w w') : Rd64 w' A rs := fun hn => by
  obtain ⟨g, o, e, hg, hc⟩ := h hn
  exact ⟨g, o, e, Nat.lt_of_lt_of_le hg hb.size, fun i hi => by rw [hb.cell (p := ⟨g, o + i, none⟩) hg]; exact hc i hi⟩
theorem rd32_of_own {w : World} {base : Nat} {A : Option Addr} {c n : Nat} {rs : List Nat} (h : w.ownsRow base 21 1 (.slice A n c) rs.length (cells32 rs)) : Rd32 w A rs ∧ n = rs.length ∧ rs.length ≤ c ∧ c ≤ maxLen := by
  rcases h.2 with ⟨hv, h0⟩ | ⟨g, cap, cur, hv, _, hh, hnc, hcm, _⟩
  · injection hv with h1 h2 h3
    subst h1; subst h2; subst h3
    exact ⟨fun hn => by omega, h0.symm, by omega, by unfold maxLen; omega⟩
  · injection hv with h1 h2 h3
    subst h1; subst h2; subst h3
    refine ⟨fun hn => ⟨g, 0, rfl, (Array.getElem?_eq_some_iff.1 hh).1, fun i hi => ?_⟩, rfl, hnc, hcm⟩
    have := h.cells (g := g) rfl i (.int .i32 ((rs.getD i 0 : Nat) : Int)) (by simp [cells32, hi, List.getD])
    rw [Addr.add_lit] at this
    exact this
theorem rd64_of_own {w : World} {base : Nat} {A : Option Addr} {c n : Nat} {rs : List Nat} (h : w.ownsRow base 3 1 (.slice A n c) rs.length (cells64 rs)) : Rd64 w A rs ∧ n = rs.length ∧ rs.length ≤ c ∧ c ≤ maxLen := by
  rcases h.2 with ⟨hv, h0⟩ | ⟨g, cap, cur, hv, _, hh, hnc, hcm, _⟩
  · injection hv with h1 h2 h3
    subst h1; subst h2; subst h3
    exact ⟨fun hn => by omega, h0.symm, by omega, by unfold maxLen; omega⟩
  · injection hv with h1 h2 h3
    subst h1; subst h2; subst h3
    refine ⟨fun hn => ⟨g, 0, rfl, (Array.getElem?_eq_some_iff.1 hh).1, fun i hi => ?_⟩, rfl, hnc, hcm⟩
    have := h.cells (g := g) rfl i (.int .i64 ((rs.getD i 0 : Nat) : Int)) (by simp [cells64, hi, List.getD])
    rw [Addr.add_lit] at this
    exact this

set_option maxHeartbeats 2000000 in
theorem same_calls (A B : Option Addr) (c d : Nat) (rs : List Nat) (w : World) (h32 : Rd32 w A rs) (h64 : Rd64 w B rs) (hm : rs.length ≤ maxLen) (hr : ∀ i, rs.getD i 0 ≤ 1114111) :
    Calls Tryd.prog 17 #[.slice A rs.length c, .slice B rs.length d] w fun e w' => e = .returned (.bool true) ∧ Below w.heap.size w w' := by
  unfold maxLen at hm
  have H32 := Lib.hid h32
  have H64 := Lib.hid h64
  have Hr := Lib.hid hr
  clear h32 h64 hr
  have hne : ((rs.length : Int) != (rs.length : Int)) = false := by simp
  go_enter Tryd.func17, Tryd.ntmps17
  go_wp2_with fail
  go_loopw [13] (fun i wr => ∃ k n : Nat, k ≤ rs.length ∧ i = .int .i64 (k : Int) ∧ wr = w.drewN n) (fun i _ => rs.length - (intOf i).toNat)
  case atStart => exact ⟨0, 0, by omega, rfl, rfl⟩
  case round =>
    obtain ⟨k, n, hk, rfl, rfl⟩ := hrel
    by_cases hlt : k < rs.length
    · obtain ⟨g, o, rfl, _, hc⟩ := H32.out (by omega)
      obtain ⟨g2, o2, rfl, _, hc2⟩ := H64.out (by omega)
      have ck := hc k hlt
      have ck2 := hc2 k hlt
      have hrk := Hr.out k
      clear hc hc2
      generalize rs.getD k 0 = y at *
      have hyy : ((y : Int) != (y : Int)) = false := by simp
      go_wp2_with fail
      go_quiet (fail)
      go_wp2
      go_roundw
      case rel => exact ⟨k + 1, _, by omega, by go_num, rfl⟩
      case measure => simp [intOf]; omega
    · go_wp2
      go_ret
      exact ⟨rfl, bel_drewN (Below.refl _ _) _⟩
end Go.Proofs.YtknmlkkdonpibaaDoor
