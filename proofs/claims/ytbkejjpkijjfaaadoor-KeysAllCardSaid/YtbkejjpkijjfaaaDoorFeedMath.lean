/-
  What a feed tells is what the whole's signs are. No program is named here.
-/
import Derived.Test.YtbkejjpkijjfaaaDoorWholeMath
namespace Go.Proofs.YtbkejjpkijjfaaaDoor
open Go

theorem whole_ext (l rest : List UInt8) (h : wholeL l = true) : Lib.decodeL (l ++ rest) = Lib.decodeL l := by
  have hne : l ≠ [] := wholeL_pos h
  have h1 : 1 ≤ l.length := List.length_pos_iff.2 hne
  have hne2 : l ++ rest ≠ [] := by simp [hne]
  by_cases hw : (Lib.decodeL (l ++ rest)).2 ≤ l.length
  · have := take_dec (l ++ rest) l.length hw
    rw [List.take_left] at this
    exact this.symm
  · have hn : l.length < (nextL (l ++ rest)).2 := by
      simp only [nextL, if_neg hne2]
      omega
    rw [whole_of_more l rest h1 hn] at h
    cases h

theorem feedF_runes : ∀ (f : Nat) (l rest : List UInt8), l.length ≤ f → runes (l ++ rest) = (feedF f l).1 ++ runes ((feedF f l).2 ++ rest)
  | 0, l, rest, h => by
    obtain rfl : l = [] := List.eq_nil_of_length_eq_zero (by omega)
    simp [feedF]
  | f + 1, l, rest, h => by
    by_cases hw : wholeL l = true
    · have hne : l ≠ [] := wholeL_pos hw
      have hne2 : l ++ rest ≠ [] := by simp [hne]
      have hwd := Lib.decodeL_width l
      have hle := Lib.decodeL_le l hne
      have h1 : 0 < l.length := List.length_pos_iff.2 hne
      have ih := feedF_runes f (l.drop (Lib.decodeL l).2) rest (by rw [List.length_drop]; omega)
      rw [runes_step _ hne2, whole_ext l rest hw, List.drop_append_of_le_length hle, ih]
      simp only [feedF, if_pos hw, List.cons_append]
    · simp only [feedF, if_neg hw, List.nil_append]
theorem feed_runes (l rest : List UInt8) : runes (l ++ rest) = (feedL l).1 ++ runes ((feedL l).2 ++ rest) := feedF_runes _ _ _ (Nat.le_refl _)

theorem feedF_stop : ∀ (f : Nat) (l : List UInt8), l.length ≤ f → wholeL (feedF f l).2 = false
  | 0, l, h => by
    obtain rfl : l = [] := List.eq_nil_of_length_eq_zero (by omega)
    exact wholeL_nil
  | f + 1, l, h => by
    by_cases hw : wholeL l = true
    · have hne : l ≠ [] := wholeL_pos hw
      have hwd := Lib.decodeL_width l
      have h1 : 0 < l.length := List.length_pos_iff.2 hne
      simp only [feedF, if_pos hw]
      exact feedF_stop f _ (by rw [List.length_drop]; omega)
    · simp only [feedF, if_neg hw]
      simpa using hw
theorem feed_stop (l : List UInt8) : wholeL (feedL l).2 = false := feedF_stop _ _ (Nat.le_refl _)
theorem feed_short (l : List UInt8) : (feedL l).2.length ≤ 3 := by
  rcases Nat.lt_or_ge 3 (feedL l).2.length with h | h
  · have := feed_stop l
    rw [whole_long _ h] at this
    cases this
  · exact h
theorem feedF_length : ∀ (f : Nat) (l : List UInt8), (feedF f l).1.length ≤ l.length
  | 0, l => by simp [feedF]
  | f + 1, l => by
    by_cases hw : wholeL l = true
    · have hne : l ≠ [] := wholeL_pos hw
      have hwd := Lib.decodeL_width l
      have h1 : 0 < l.length := List.length_pos_iff.2 hne
      have ih := feedF_length f (l.drop (Lib.decodeL l).2)
      rw [List.length_drop] at ih
      simp only [feedF, if_pos hw, List.length_cons]
      omega
    · simp [feedF, if_neg hw]
theorem feed_length (l : List UInt8) : (feedL l).1.length ≤ l.length := feedF_length _ _
theorem feedF_valid : ∀ (f : Nat) (l : List UInt8), ∀ r ∈ (feedF f l).1, Valid r
  | 0, l, r, h => by simp [feedF] at h
  | f + 1, l, r, h => by
    by_cases hw : wholeL l = true
    · simp only [feedF, if_pos hw, List.mem_cons] at h
      rcases h with h | h
      · rw [h]; exact decodeL_valid l
      · exact feedF_valid f _ r h
    · simp [feedF, if_neg hw] at h
end Go.Proofs.YtbkejjpkijjfaaaDoor
