/-
  Two clusters in each other's places, over lists alone. No program is named here.
-/
import Derived.Test.YtifdgaklchihbaaDoorTextMake
namespace Go.Proofs.YtifdgaklchihbaaDoor
open Go

theorem gone_pos (l : List UInt8) (j : Nat) (hj : j < (cutL l).length) : goneS l (pos (cutL l) j) (pos (cutL l) (j + 1)) = (cutL l).getD j [] := by
  have h1 := drop_pos (cutL l) j
  rw [cutL_flatten] at h1
  have h2 := pos_succ (cutL l) j hj
  have e : (cutL l).drop j = (cutL l).getD j [] :: (cutL l).drop (j + 1) := by
    rw [List.drop_eq_getElem_cons hj]; simp [List.getD, hj]
  unfold goneS
  rw [h1, e, List.flatten_cons, h2, Nat.add_sub_cancel_left, List.take_left]
/-- The place between the two. -/
def swMid (m : List UInt8) (a : Nat) : Nat := if a = m.length then prvL m a else a
/-- What Swap answers: the text, the place, whether. -/
def swapR (m : List UInt8) (a : Nat) : List UInt8 × Nat × Bool :=
  if swMid m a = 0 then (m, a, false)
  else (swS m (prvL m (swMid m a)) (swMid m a) (nxtL m (swMid m a)), onL (swS m (prvL m (swMid m a)) (swMid m a) (nxtL m (swMid m a))) (nxtL m (swMid m a) : Int), true)
theorem prvL_le (m : List UInt8) (a : Nat) (_ : a ≤ m.length) : prvL m a ≤ m.length := backL_le _ _
theorem isB_mid {m : List UInt8} {a : Nat} (h : IsB m a) : IsB m (swMid m a) := by
  unfold swMid
  split
  · exact isB_back _ _
  · exact h
theorem prv_lt {m : List UInt8} {a : Nat} (h : IsB m a) : prvL m a ≤ a := by
  obtain ⟨k, hk, rfl⟩ := h
  rw [prvL_pos m hk]
  exact pos_mono _ (by omega)
theorem nxt_ge {m : List UInt8} {a : Nat} (h : IsB m a) : a ≤ nxtL m a := by
  obtain ⟨k, hk, rfl⟩ := h
  rw [nxtL_pos m hk]
  exact pos_mono _ (by omega)
theorem swap_rt {m : List UInt8} {a : Nat} (h : Rt m a) : Rt (swapR m a).1 (swapR m a).2.1 ∧ (swapR m a).1.length = m.length := by
  have hm := isB_mid h.2.2
  unfold swapR
  split
  · exact ⟨h, rfl⟩
  · exact ⟨sw_rt h.1 h.2.1 (isB_back _ _) hm (isB_on _ _) (prv_lt hm) (nxt_ge hm), swS_length _ _ _ _ (prv_lt hm) (nxt_ge hm) (onL_le _ _)⟩
/-- The two by their numbers: k of the clusters are ahead of the cursor. -/
def swIdx (cs : List (List UInt8)) (k : Nat) : Nat := if k = cs.length then k - 1 else k
/-- The clusters, two of them in each other's places. -/
def swL (cs : List (List UInt8)) (j : Nat) : List (List UInt8) := (cs.set (j - 1) (cs.getD j [])).set j (cs.getD (j - 1) [])
theorem swMid_pos (m : List UInt8) {k : Nat} (hk : k ≤ (cutL m).length) : swMid m (pos (cutL m) k) = pos (cutL m) (swIdx (cutL m) k) := by
  unfold swMid swIdx
  have hl : m.length = pos (cutL m) (cutL m).length := by rw [pos_all _ _ (Nat.le_refl _), cutL_flatten]
  by_cases h : k = (cutL m).length
  · rw [if_pos h, if_pos (by rw [hl, h]), prvL_pos m hk]
  · rw [if_neg h, if_neg]
    intro e
    rw [hl] at e
    exact h (pos_inj (cut_full m) hk (Nat.le_refl _) e)
theorem pos_eq_zero {cs : List (List UInt8)} (hf : Full cs) {k : Nat} (hk : k ≤ cs.length) : pos cs k = 0 ↔ k = 0 := by
  constructor
  · intro h
    exact pos_inj hf hk (Nat.zero_le _) (by rw [h, pos_zero])
  · rintro rfl; rfl
theorem swIdx_zero (cs : List (List UInt8)) (k : Nat) (hk : k ≤ cs.length) : swIdx cs k = 0 ↔ k = 0 ∨ cs.length < 2 := by
  unfold swIdx
  split <;> omega
theorem swL_flatten (cs : List (List UInt8)) (j : Nat) (h0 : 0 < j) (hj : j < cs.length) : swL cs j = cs.take (j - 1) ++ [cs.getD j [], cs.getD (j - 1) []] ++ cs.drop (j + 1) := by
  obtain ⟨i, rfl⟩ : ∃ i, j = i + 1 := ⟨j - 1, by omega⟩
  simp only [Nat.add_sub_cancel] at *
  refine List.ext_getElem ?_ fun n h1 h2 => ?_
  · simp [swL, List.length_take]; omega
  · simp only [swL, Nat.add_sub_cancel, List.length_set] at h1
    simp only [swL, Nat.add_sub_cancel, List.getElem_set, List.getElem_append, List.length_append, List.length_take, List.length_cons, List.length_nil, Nat.min_eq_left (show i ≤ cs.length by omega)]
    by_cases e1 : i + 1 = n
    · subst e1
      simp
      intro h
      omega
    · by_cases e2 : i = n
      · subst e2
        simp
      · rw [if_neg e1, if_neg e2]
        by_cases e3 : n < i
        · simp [show n < i + (0 + 1 + 1) by omega, e3]
        · have : ¬ n < i + (0 + 1 + 1) := by omega
          simp only [this, dite_false]
          rw [List.getElem_drop]
          congr 1
          omega
/-- What Swap makes is what the clusters make. -/
theorem swapR_idx {m : List UInt8} (j : Nat) (h0 : 0 < j) (hj : j < (cutL m).length) :
    swS m (prvL m (pos (cutL m) j)) (pos (cutL m) j) (nxtL m (pos (cutL m) j)) = (swL (cutL m) j).flatten ∧ nxtL m (pos (cutL m) j) = (((swL (cutL m) j).take (j + 1)).flatten).length := by
  have hp := prvL_pos m (show j ≤ (cutL m).length by omega)
  have hn := nxtL_pos m (show j ≤ (cutL m).length by omega)
  rw [Nat.min_eq_left (by omega)] at hn
  have g1 := gone_pos m j hj
  have g2 := gone_pos m (j - 1) (by omega)
  rw [show j - 1 + 1 = j by omega] at g2
  have t1 := take_pos (cutL m) (j - 1)
  have d1 := drop_pos (cutL m) (j + 1)
  rw [cutL_flatten] at t1 d1
  rw [hp, hn, swL_flatten _ j h0 hj]
  constructor
  · unfold swS
    rw [g1, g2, t1, d1]
    simp
  · have e1 : ((cutL m).take (j - 1) ++ [(cutL m).getD j [], (cutL m).getD (j - 1) []] ++ (cutL m).drop (j + 1)).take (j + 1) = (cutL m).take (j - 1) ++ [(cutL m).getD j [], (cutL m).getD (j - 1) []] := by
      rw [List.take_append_of_le_length (by simp [List.length_take]; omega), List.take_of_length_le (by simp [List.length_take]; omega)]
    rw [e1]
    have p1 := pos_succ (cutL m) j hj
    have p2 := pos_succ (cutL m) (j - 1) (by omega)
    rw [show j - 1 + 1 = j by omega] at p2
    rw [p1, p2]
    simp [pos]
    omega
end Go.Proofs.YtifdgaklchihbaaDoor
