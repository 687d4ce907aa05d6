/-
  Signs that come byte by byte, over lists alone. No program is named here.
-/
import Derived.Test.YtbkejjpkijjfaaaDoorWaitMath
namespace Go.Proofs.YtbkejjpkijjfaaaDoor
open Go

theorem clean_of : ∀ (n : Nat) (l : List UInt8), l.length ≤ n → (∀ r ∈ runes l, r ≠ 65533) → encL (runes l) = l
  | 0, l, hn, _ => by
    obtain rfl : l = [] := List.eq_nil_of_length_eq_zero (by omega)
    rfl
  | n + 1, l, hn, h => by
    by_cases hl : l = []
    · subst hl; rfl
    · have hd := drop_lt l hl
      have hs := runes_step l hl
      have h0 : (Lib.decodeL l).1 ≠ 65533 := h _ (by rw [hs]; simp)
      have ih := clean_of n (l.drop (Lib.decodeL l).2) (by omega) (fun r hr => h r (by rw [hs]; simp [hr]))
      rw [hs, encL_cons, ih, Lib.encode_decode l hl (fun hh => h0 hh.1), List.take_append_drop]
theorem first_fine (r : Nat) (hv : Valid r) (h32 : 32 ≤ r) (hc : ctlL (r : Int) = false) : 32 ≤ ((Lib.encodeRune (r : Int)).getD 0 0).toNat ∧ ((Lib.encodeRune (r : Int)).getD 0 0).toNat ≠ 127 := by
  have hg := enc_getD (r : Int) 0 (by have := Lib.encodeRuneZ_length (r : Int); omega)
  simp only [ctlL, decide_eq_false_iff_not] at hc
  unfold Valid at hv
  by_cases h1 : r ≤ 127
  · rw [Lib.encodeRuneZ_one (r := (r : Int)) (by omega) (by omega)] at hg
    simp only [List.getD_cons_zero] at hg
    omega
  · by_cases h2 : r ≤ 2047
    · rw [Lib.encodeRuneZ_two (r := (r : Int)) (by omega) (by omega)] at hg
      simp only [List.getD_cons_zero] at hg
      omega
    · by_cases h3 : r ≤ 65535
      · rw [Lib.encodeRuneZ_three (r := (r : Int)) (by omega)] at hg
        simp only [List.getD_cons_zero] at hg
        omega
      · rw [Lib.encodeRuneZ_four (r := (r : Int)) (by omega) (by omega)] at hg
        simp only [List.getD_cons_zero] at hg
        omega
theorem feed_sign_aux (r : Nat) (hv : Valid r) (h32 : 32 ≤ r) (hc : ctlL (r : Int) = false) : ∀ (q p : List UInt8) (t : Bool), p ++ q = Lib.encodeRune (r : Int) → q ≠ [] → feedD ⟨p, [], 0, t⟩ q = ([(1, Lib.encodeRune (r : Int))], Dec.zero)
  | [], _, _, _, hq => absurd rfl hq
  | x :: q, p, t, he, _ => by
    have hl4 := Lib.runeCells_le (r : Int)
    rw [Lib.runeCells_length] at hl4
    obtain ⟨f1, f2⟩ := first_fine r hv h32 hc
    have hlen := congrArg List.length he
    simp only [List.length_append, List.length_cons] at hlen
    have he2 : (p ++ [x]) ++ q = Lib.encodeRune (r : Int) := by rw [← he]; simp
    have h0 : (p ++ [x]).getD 0 0 = (Lib.encodeRune (r : Int)).getD 0 0 := by rw [← he2]; exact (getD_left (p ++ [x]) q 0 (by simp)).symm
    have hp : ¬ p = pasteB := fun e => by
      have := congrArg List.length e
      have e6 : pasteB.length = 6 := rfl
      omega
    have hne : p ++ [x] ≠ [] := by simp
    by_cases hq : q = []
    · subst hq
      rw [List.append_nil] at he2
      have hw := whole_enc r hv
      have hd := dec_enc r hv []
      rw [List.append_nil] at hd
      have ho : oneL (p ++ [x]) = ((1, Lib.encodeRune (r : Int)), (p ++ [x]).length) := by
        unfold oneL
        rw [h0, if_neg (by omega), if_neg (by omega), if_neg f2, he2, if_pos hw, hd]
        unfold signK
        rw [if_neg (by simp [hc])]
      have hk : keysL (p ++ [x]) = ([(1, Lib.encodeRune (r : Int))], []) := by
        rw [keysL_step _ hne (by rw [ho]; simp), ho]
        simp only [List.drop_length, keysL_nil]
      rw [feedD_one]
      unfold putD
      rw [if_neg hp]
      simp only [hk]
      rfl
    · have hwf : wholeL (p ++ [x]) = false := by
        refine whole_of_more (p ++ [x]) q (by simp) ?_
        have hd := dec_enc r hv []
        rw [List.append_nil] at hd
        rw [he2]
        have hne2 : Lib.encodeRune (r : Int) ≠ [] := fun e => by
          rw [e] at hlen; simp at hlen
        simp only [nextL, if_neg hne2, hd]
        have := List.length_pos_iff.2 hq
        simp
        omega
      have ho : (oneL (p ++ [x])).2 = 0 := by
        unfold oneL
        rw [h0, if_neg (by omega), if_neg (by omega), if_neg f2, if_neg (by simp [hwf])]
      have hput : putD ⟨p, [], 0, t⟩ x = ([], ⟨p ++ [x], [], 0, false⟩) := by
        unfold putD
        rw [if_neg hp]
        simp only [keysL_stop _ ho]
        rw [List.take_of_length_le (by simp; omega)]
      simp only [feedD, hput]
      rw [feed_sign_aux r hv h32 hc q (p ++ [x]) false he2 hq]
      rfl
theorem feed_signs : ∀ (rs : List Nat), (∀ r ∈ rs, Valid r ∧ 32 ≤ r ∧ ctlL (r : Int) = false) → feedD Dec.zero (encL rs) = (rs.map fun (r : Nat) => (1, Lib.encodeRune (r : Int)), Dec.zero)
  | [], _ => rfl
  | r :: rs, h => by
    obtain ⟨hv, h32, hc⟩ := h r (by simp)
    have hne : Lib.encodeRune (r : Int) ≠ [] := by
      have hw := whole_enc r hv
      exact wholeL_pos hw
    have h1 : feedD Dec.zero (Lib.encodeRune (r : Int)) = ([(1, Lib.encodeRune (r : Int))], Dec.zero) := feed_sign_aux r hv h32 hc _ [] false rfl hne
    rw [encL_cons, feedD_append, h1, feed_signs rs (fun x hx => h x (by simp [hx]))]
    rfl
/-- Of a text without controls, and without what is no sign, each sign is a key. -/
theorem feed_text (l : List UInt8) (h : ∀ r ∈ runes l, 32 ≤ r ∧ ctlL (r : Int) = false ∧ r ≠ 65533) : feedD Dec.zero l = ((runes l).map fun (r : Nat) => (1, Lib.encodeRune (r : Int)), Dec.zero) := by
  have h1 := feed_signs (runes l) (fun r hr => ⟨runes_valid l r hr, (h r hr).1, (h r hr).2.1⟩)
  rwa [clean_of l.length l (Nat.le_refl _) (fun r hr => (h r hr).2.2)] at h1
end Go.Proofs.YtbkejjpkijjfaaaDoor
