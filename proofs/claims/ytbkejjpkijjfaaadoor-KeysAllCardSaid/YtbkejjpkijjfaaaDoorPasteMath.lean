/-
  A paste, over lists alone: bytes up to its end are one key. No program is named here.
-/
import Derived.Test.YtbkejjpkijjfaaaDoorKeyMath
import Derived.Lib.IndexLaws
import Derived.Lib.IndexMore
namespace Go.Proofs.YtbkejjpkijjfaaaDoor
open Go

/-- What a decoder knows of a paste's bytes B: those that are kept, and how many of the end came last. -/
def PasteAt (B : List UInt8) (d : Dec) : Prop :=
  d.w = pasteB ∧ d.e < 6 ∧ d.t = false ∧ (∃ C, B = C ++ pasteE.take d.e ∧ d.p = C.take 1200) ∧ ∀ m, m ≤ 5 → (∃ C, B = C ++ pasteE.take m) → m ≤ d.e
theorem keep_take (C t : List UInt8) : keepL (C.take 1200) t = (C ++ t).take 1200 := by
  unfold keepL
  rw [List.take_append]
  by_cases h : C.length ≤ 1200
  · rw [List.take_of_length_le h]
  · rw [List.length_take, Nat.min_eq_left (by omega)]
    have : 1200 - C.length = 0 := by omega
    rw [this]
theorem take_snoc6 (e : Nat) (he : e < 6) : pasteE.take (e + 1) = pasteE.take e ++ [pasteE.getD e 0] := by
  have h : e = 0 ∨ e = 1 ∨ e = 2 ∨ e = 3 ∨ e = 4 ∨ e = 5 := by omega
  rcases h with rfl | rfl | rfl | rfl | rfl | rfl <;> rfl
theorem ends_snoc {B : List UInt8} {x : UInt8} {m : Nat} (hm : m < 6) (h : ∃ C, B ++ [x] = C ++ pasteE.take (m + 1)) : x = pasteE.getD m 0 ∧ ∃ C, B = C ++ pasteE.take m := by
  obtain ⟨C, h⟩ := h
  rw [take_snoc6 m hm, ← List.append_assoc] at h
  obtain ⟨h1, h2⟩ := List.append_inj' h rfl
  exact ⟨by simpa using h2, C, h1⟩
theorem only_first (m : Nat) (hm : m < 6) (h : pasteE.getD m 0 = 27) : m = 0 := by
  have hh : m = 0 ∨ m = 1 ∨ m = 2 ∨ m = 3 ∨ m = 4 ∨ m = 5 := by omega
  rcases hh with rfl | rfl | rfl | rfl | rfl | rfl
  · rfl
  all_goals exact absurd h (by decide)
/-- No beginning of the end stands within another one but at its own beginning. -/
theorem ends_two {B : List UInt8} {m e : Nat} (hme : m < e) (he : e < 6) (h1 : ∃ C, B = C ++ pasteE.take m) (h2 : ∃ C, B = C ++ pasteE.take e) : m = 0 := by
  obtain ⟨C, h1⟩ := h1
  obtain ⟨D, h2⟩ := h2
  have hl : (pasteE.take e).length = e := by
    rw [List.length_take]; have : pasteE.length = 6 := rfl; omega
  have hlm : (pasteE.take m).length = m := by
    rw [List.length_take]; have : pasteE.length = 6 := rfl; omega
  have h3 : (pasteE.take e).drop (e - m) = pasteE.take m := by
    have hB2 : B.length = D.length + e := by rw [h2, List.length_append, hl]
    have hB1 : B.length = C.length + m := by rw [h1, List.length_append, hlm]
    have a : (D ++ pasteE.take e).drop (B.length - m) = (pasteE.take e).drop (e - m) := by
      rw [List.drop_append, List.drop_eq_nil_of_le (as := D) (by omega), List.nil_append, show B.length - m - D.length = e - m by omega]
    have b : (C ++ pasteE.take m).drop (B.length - m) = pasteE.take m := by
      rw [List.drop_append, List.drop_eq_nil_of_le (as := C) (by omega), List.nil_append, show B.length - m - C.length = 0 by omega, List.drop_zero]
    rw [← a, ← b, ← h1, ← h2]
  have key : ∀ (e m : Fin 6), m.1 < e.1 → (pasteE.take e.1).drop (e.1 - m.1) = pasteE.take m.1 → m.1 = 0 := by decide
  exact key ⟨e, he⟩ ⟨m, by omega⟩ hme h3
theorem paste_step {B : List UInt8} {d : Dec} (h : PasteAt B d) (x : UInt8) (hno : ¬ ∃ C, B ++ [x] = C ++ pasteE) : ∃ d', putD d x = ([], d') ∧ PasteAt (B ++ [x]) d' := by
  obtain ⟨hw, he, ht, ⟨C, hB, hp⟩, hmax⟩ := h
  unfold putD
  rw [if_pos hw]
  unfold putP
  by_cases hx : x = pasteE.getD d.e 0
  · by_cases h6 : d.e + 1 < 6
    · rw [if_pos hx, if_pos h6]
      refine ⟨_, rfl, hw, h6, rfl, ⟨C, ?_, hp⟩, fun m hm hC => ?_⟩
      · simp only
        rw [take_snoc6 d.e he, ← List.append_assoc, ← hB, ← hx]
      · match m, hC with
        | 0, _ => omega
        | m + 1, hC =>
          obtain ⟨_, hC⟩ := ends_snoc (by omega) hC
          have := hmax m (by omega) hC
          simp only
          omega
    · exfalso
      refine hno ⟨C, ?_⟩
      have h5 : d.e = 5 := by omega
      rw [hB, hx, h5, List.append_assoc]
      rfl
  · by_cases h27 : x = 27
    · rw [if_neg hx, if_pos h27]
      refine ⟨_, rfl, hw, by simp only; omega, rfl, ⟨B, ?_, ?_⟩, fun m hm hC => ?_⟩
      · rw [h27]; rfl
      · rw [hp, keep_take, ← hB]
      · match m, hC with
        | 0, _ => simp only; omega
        | m + 1, hC =>
          obtain ⟨hx2, _⟩ := ends_snoc (by omega) hC
          have := only_first m (by omega) (by rw [← hx2, h27])
          simp only
          omega
    · rw [if_neg hx, if_neg h27]
      refine ⟨_, rfl, hw, by simp only; omega, rfl, ⟨B ++ [x], ?_, ?_⟩, fun m hm hC => ?_⟩
      · simp
      · rw [hp, keep_take, ← hB, keep_take]
      · match m, hC with
        | 0, _ => simp only; omega
        | m + 1, hC =>
          exfalso
          obtain ⟨hx2, hC2⟩ := ends_snoc (by omega) hC
          have hle := hmax m (by omega) hC2
          rcases Nat.lt_or_eq_of_le hle with hlt | heq
          · have h0 := ends_two hlt he hC2 ⟨C, hB⟩
            rw [h0] at hx2
            exact h27 hx2
          · rw [heq] at hx2
            exact hx hx2
theorem paste_run : ∀ (q B : List UInt8) (d : Dec), PasteAt B d → (∀ j, ((B ++ q).drop j).take 6 ≠ pasteE) → ∃ d', feedD d q = ([], d') ∧ PasteAt (B ++ q) d'
  | [], B, d, h, _ => ⟨d, rfl, by simpa using h⟩
  | x :: q, B, d, h, hno => by
    have e : B ++ x :: q = (B ++ [x]) ++ q := by simp
    have hn1 : ¬ ∃ C, B ++ [x] = C ++ pasteE := by
      rintro ⟨C, hC⟩
      refine hno C.length ?_
      rw [e, hC, List.append_assoc, List.drop_left]
      rfl
    obtain ⟨d1, h1, h2⟩ := paste_step h x hn1
    obtain ⟨d2, h3, h4⟩ := paste_run q (B ++ [x]) d1 h2 (by rw [← e]; exact hno)
    refine ⟨d2, ?_, by rw [e]; exact h4⟩
    simp only [feedD, h1, h3]
    rfl
/-- What is pasted, as long as it has no end within, is one key. -/
theorem paste_all (s : List UInt8) (hs : s.length ≤ 1200) (hno : ∀ j, ((s ++ pasteE.take 5).drop j).take 6 ≠ pasteE) : feedD ⟨pasteB, [], 0, false⟩ (s ++ pasteE) = ([(26, plainL s)], Dec.zero) := by
  have h0 : PasteAt [] ⟨pasteB, [], 0, false⟩ := by
    refine ⟨rfl, by decide, rfl, ⟨[], rfl, rfl⟩, fun m hm hC => ?_⟩
    obtain ⟨C, hC⟩ := hC
    have := congrArg List.length hC
    rw [List.length_append, List.length_take] at this
    have e6 : pasteE.length = 6 := rfl
    simp only [List.length_nil] at this
    simp only
    omega
  obtain ⟨d1, h1, hw, he, ht, ⟨C, hC, hp⟩, hmax⟩ := paste_run (s ++ pasteE.take 5) [] _ h0 (by simpa using hno)
  rw [List.nil_append] at hC
  have h5 : d1.e = 5 := by
    have := hmax 5 (by omega) ⟨s, by simp⟩
    omega
  rw [h5] at hC
  obtain ⟨hCs, _⟩ := List.append_inj' hC rfl
  rw [← hCs, List.take_of_length_le hs] at hp
  have e : s ++ pasteE = (s ++ pasteE.take 5) ++ [126] := by rw [List.append_assoc]; rfl
  have h2 : putD d1 126 = ([(26, plainL s)], Dec.zero) := by
    unfold putD
    rw [if_pos hw]
    unfold putP
    rw [h5, if_pos (by decide), if_neg (by decide), hp]
  rw [e, feedD_append, h1, feedD_one]
  simp only [h2]
  rfl
theorem paste_begun (t : Bool) : feedD ⟨[], [], 0, t⟩ pasteB = ([], ⟨pasteB, [], 0, false⟩) := by
  cases t <;> rfl
theorem no_occ (s sub : List UInt8) (h : Lib.contains s sub = false) : ∀ j, j ≤ s.length → Lib.occAt s sub j = false := by
  have hi : Lib.index s sub < 0 := by
    unfold Lib.contains at h
    have := of_decide_eq_false h
    omega
  have aux : ∀ n, ∀ j, j ≤ n → j ≤ s.length → Lib.occAt s sub j = false := by
    intro n
    induction n with
    | zero =>
      intro j hj hjl
      obtain rfl : j = 0 := by omega
      cases ho : Lib.occAt s sub 0 with
      | false => rfl
      | true =>
        have := Lib.index_first hjl ho (fun k hk => by omega)
        omega
    | succ n ih =>
      intro j hj hjl
      cases ho : Lib.occAt s sub j with
      | false => rfl
      | true =>
        have := Lib.index_first hjl ho (fun k hk => ih k (by omega) (by omega))
        omega
  exact fun j hj => aux j j (Nat.le_refl _) hj
theorem no_end (s : List UInt8) (h : Lib.contains (s ++ [27, 91, 50, 48, 49]) [27, 91, 50, 48, 49, 126] = false) : ∀ j, ((s ++ pasteE.take 5).drop j).take 6 ≠ pasteE := by
  intro j hj
  have he : s ++ pasteE.take 5 = s ++ [27, 91, 50, 48, 49] := rfl
  rw [he] at hj
  rcases Nat.lt_or_ge (s ++ [27, 91, 50, 48, 49]).length j with hl | hl
  · rw [List.drop_eq_nil_of_le (by omega)] at hj
    exact absurd hj (by decide)
  · have ho := no_occ _ _ h j hl
    have hp : [27, 91, 50, 48, 49, 126] <+: (s ++ [27, 91, 50, 48, 49]).drop j := ⟨((s ++ [27, 91, 50, 48, 49]).drop j).drop 6, by
      have := List.take_append_drop 6 ((s ++ [27, 91, 50, 48, 49]).drop j)
      rw [hj] at this
      exact this⟩
    unfold Lib.occAt at ho
    rw [List.isPrefixOf_iff_prefix.2 hp] at ho
    cases ho
end Go.Proofs.YtbkejjpkijjfaaaDoor
