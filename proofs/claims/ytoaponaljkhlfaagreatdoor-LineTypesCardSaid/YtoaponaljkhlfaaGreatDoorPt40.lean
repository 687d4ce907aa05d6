/-
  Layer 7 and what it stands on, part 40 (Enc).
-/
import Derived.Test.YtoaponaljkhlfaaGreatDoorPt1
import Derived.Laws.Cover4
import Derived.Laws.Runes
namespace Go.Proofs.YtoaponaljkhlfaaGreatDoor
section
open Go Go.RowKit
theorem arr_ext {a b : ByteArray} (h : a.data.toList = b.data.toList) : a = b := by
  cases a; cases b; simp at h; subst h; rfl
theorem encode_enc (r : Int) : Utf8.encode r = ⟨(Lib.encodeRune r).toArray⟩ := by
  apply arr_ext
  have hv := validRune_eq r
  unfold Utf8.encode Lib.encodeRune
  by_cases h : (0 ≤ r ∧ r < 55296) ∨ (57343 < r ∧ r ≤ 1114111)
  · rw [hv, validRune, decide_eq_true h]
    simp only [if_true]
    by_cases h1 : r ≤ 127
    · rw [Lib.encodeRuneZ_one (by omega) h1, if_pos (by omega)]
      simp
    · rw [if_neg (by omega)]
      by_cases h2 : r ≤ 2047
      · rw [Lib.encodeRuneZ_two (by omega) h2, if_pos (by omega)]
        simp only [List.map_cons, List.map_nil, List.cons.injEq, and_true]
        refine ⟨?_, ?_⟩ <;> (apply congrArg UInt8.ofNat; omega)
      · rw [if_neg (by omega)]
        by_cases h3 : r ≤ 65535
        · rw [Lib.encodeRuneZ_three (by omega), if_pos (by omega)]
          simp only [List.map_cons, List.map_nil, List.cons.injEq, and_true]
          refine ⟨?_, ?_, ?_⟩ <;> (apply congrArg UInt8.ofNat; omega)
        · rw [Lib.encodeRuneZ_four (by omega) (by omega), if_neg (by omega)]
          simp only [List.map_cons, List.map_nil, List.cons.injEq, and_true]
          refine ⟨?_, ?_, ?_, ?_⟩ <;> (apply congrArg UInt8.ofNat; omega)
  · rw [hv, validRune, decide_eq_false h, Lib.encodeRuneZ_bad (by omega)]
    simp only [Bool.false_eq_true, if_false]
    decide +kernel
theorem whole_enc (r : Nat) (h : Valid r) : wholeL (Lib.encodeRune (r : Int)) = true := by
  unfold Valid at h
  have hl := enc_length (r : Int)
  have hg := enc_getD (r : Int)
  unfold wholeL
  apply decide_eq_true
  rw [hl]
  have hz := Lib.encodeRuneZ_length (r : Int)
  refine ⟨by omega, .inl ?_⟩
  by_cases h1 : r ≤ 127
  · rw [Lib.encodeRuneZ_one (r := (r : Int)) (by omega) (by omega)] at hg ⊢
    have q0 := hg 0 (by simp)
    simp only [List.getD_cons_zero] at q0
    generalize ((Lib.encodeRune (r : Int)).getD 0 0).toNat = b0 at *
    simp only [List.length_cons, List.length_nil]
    unfold Lib.firstT
    rw [if_pos (by omega)]
    decide
  · by_cases h2 : r ≤ 2047
    · rw [Lib.encodeRuneZ_two (r := (r : Int)) (by omega) (by omega)] at hg ⊢
      have q0 := hg 0 (by simp)
      simp only [List.getD_cons_zero] at q0
      generalize ((Lib.encodeRune (r : Int)).getD 0 0).toNat = b0 at *
      simp only [List.length_cons, List.length_nil]
      unfold Lib.firstT
      rw [if_neg (by omega), if_neg (by omega), if_pos (by omega)]
      decide
    · by_cases h3 : r ≤ 65535
      · rw [Lib.encodeRuneZ_three (r := (r : Int)) (by omega)] at hg ⊢
        have q0 := hg 0 (by simp)
        simp only [List.getD_cons_zero] at q0
        generalize ((Lib.encodeRune (r : Int)).getD 0 0).toNat = b0 at *
        simp only [List.length_cons, List.length_nil]
        unfold Lib.firstT
        repeat' split
        all_goals omega
      · rw [Lib.encodeRuneZ_four (r := (r : Int)) (by omega) (by omega)] at hg ⊢
        have q0 := hg 0 (by simp)
        simp only [List.getD_cons_zero] at q0
        generalize ((Lib.encodeRune (r : Int)).getD 0 0).toNat = b0 at *
        simp only [List.length_cons, List.length_nil]
        unfold Lib.firstT
        repeat' split
        all_goals omega
theorem clean_wrong : cleanL [239, 191, 189] = [239, 191, 189] := by decide +kernel
theorem enc_bad (r : Int) (h : r < 0 ∨ (55296 ≤ r ∧ r ≤ 57343) ∨ 1114111 < r) : Lib.encodeRune r = [239, 191, 189] := by
  unfold Lib.encodeRune; rw [Lib.encodeRuneZ_bad h]; rfl
end
end Go.Proofs.YtoaponaljkhlfaaGreatDoor
