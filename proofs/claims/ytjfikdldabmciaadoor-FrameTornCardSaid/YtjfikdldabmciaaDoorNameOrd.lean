/-
  Texts as rows of bytes, and their order. Lists alone.
-/
import Derived.Test.YtjfikdldabmciaaDoorBs
namespace Go.Proofs.YtjfikdldabmciaaDoor
open Go

/-- A text's bytes. -/
def bl (x : ByteArray) : List UInt8 := x.data.toList
theorem bs_bl (x : ByteArray) : bs (bl x) = x := by unfold bs bl; simp
theorem bl_bs (l : List UInt8) : bl (bs l) = l := by unfold bs bl; simp
theorem bl_inj {a b : ByteArray} (h : bl a = bl b) : a = b := by rw [← bs_bl a, ← bs_bl b, h]
theorem less_iff : ∀ x y : List UInt8, Op.bytesLess x y = true ↔ x < y
  | _, [] => by cases ‹List UInt8› <;> simp [Op.bytesLess]
  | [], _ :: _ => by simp [Op.bytesLess]
  | a :: x, b :: y => by
    have := less_iff x y
    simp only [Op.bytesLess, Bool.or_eq_true, decide_eq_true_eq, Bool.and_eq_true, beq_iff_eq, this, List.cons_lt_cons_iff]
/-- Is a greater than b? -/
def gtB (a b : ByteArray) : Bool := !(Op.bytesLess a.toList b.toList || a.toList == b.toList)
theorem lt_of_gt {a b : ByteArray} (h : gtB a b = true) : bl b < bl a := by
  unfold gtB at h
  rw [Bool.not_eq_true', Bool.or_eq_false_iff, Lib.toList_data, Lib.toList_data] at h
  obtain ⟨h1, h2⟩ := h
  have h3 : ¬ (a.data.toList < b.data.toList) := fun e => by rw [(less_iff _ _).2 e] at h1; cases h1
  have h4 : a.data.toList ≠ b.data.toList := by simpa using h2
  rcases List.le_iff_lt_or_eq.1 (List.not_lt.1 h3) with h5 | h5
  · exact h5
  · exact absurd h5.symm h4
theorem lt_of_ngt {a b : ByteArray} (h : gtB a b = false) (hn : a ≠ b) : bl a < bl b := by
  unfold gtB at h
  rw [Bool.not_eq_false', Bool.or_eq_true, Lib.toList_data, Lib.toList_data, less_iff] at h
  rcases h with h | h
  · exact h
  · exact absurd (bl_inj (eq_of_beq h)) hn
theorem tl_beq (a b : ByteArray) : (a.toList == b.toList) = decide (a = b) := by
  rw [Lib.toList_data, Lib.toList_data]
  by_cases h : a = b
  · subst h; simp
  · have : a.data.toList ≠ b.data.toList := fun e => h (bl_inj e)
    rw [decide_eq_false h]
    exact beq_eq_false_iff_ne.2 this
end Go.Proofs.YtjfikdldabmciaaDoor
