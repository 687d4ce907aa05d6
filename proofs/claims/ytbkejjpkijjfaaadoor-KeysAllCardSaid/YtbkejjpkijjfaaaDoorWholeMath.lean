/-
  Whole, as the document's own way finds it by trying bytes behind: it is what the tables say. No program is named here.
-/
import Derived.Test.YtbkejjpkijjfaaaDoorMore
import Derived.Lib.DecodeNEq
namespace Go.Proofs.YtbkejjpkijjfaaaDoor
open Go

/-- The bytes that are tried behind. -/
def moreTab : List (List UInt8) := [[128], [143], [144], [159], [160], [191], [128, 128], [143, 128], [144, 128], [159, 128], [160, 128], [191, 128], [128, 128, 128], [143, 128, 128], [144, 128, 128], [191, 128, 128]]
def moreL (k : Nat) : List UInt8 := moreTab.getD k []

theorem width_eq (y : List UInt8) (h : y ≠ []) : (nextL y).2 = (Lib.decodeN y.length (y.getD 0 0).toNat (y.getD 1 0).toNat (y.getD 2 0).toNat (y.getD 3 0).toNat).2 := by
  simp only [nextL, if_neg h]
  rw [Lib.decodeL_N]

theorem first_far (b : Nat) (h : ¬ Lib.firstT b < 240) : b < 194 ∨ 245 ≤ b := by
  unfold Lib.firstT at h
  repeat' split at h
  all_goals omega
theorem first_big (b : Nat) (h : ¬ Lib.firstT b < 240) (n b1 b2 b3 : Nat) : (Lib.decodeN n b b1 b2 b3).2 = 1 ∧ Lib.firstT b % 8 ≤ 1 := by
  have hf := first_far b h
  constructor
  · rcases Lib.decodeN_shape n b b1 b2 b3 with ⟨q1, e⟩ | ⟨q1, q2, q3, q4, e⟩ | ⟨q1, q2, q3, q4, q5, q6, e⟩ | ⟨q1, q2, q3, q4, q5, q6, q7, e⟩ | e
    · rw [e]
    · omega
    · omega
    · omega
    · rw [e]
  · clear h
    unfold Lib.firstT
    repeat' split
    all_goals omega

theorem class_of (b : Nat) (h : Lib.firstT b < 240) :
    (Lib.firstT b % 8 = 2 ∧ Lib.accLo (Lib.firstT b / 16) = 128 ∧ Lib.accHi (Lib.firstT b / 16) = 191) ∨
    (Lib.firstT b % 8 = 3 ∧ Lib.accLo (Lib.firstT b / 16) = 160 ∧ Lib.accHi (Lib.firstT b / 16) = 191) ∨
    (Lib.firstT b % 8 = 3 ∧ Lib.accLo (Lib.firstT b / 16) = 128 ∧ 128 ≤ Lib.accHi (Lib.firstT b / 16)) ∨
    (Lib.firstT b % 8 = 4 ∧ Lib.accLo (Lib.firstT b / 16) = 144 ∧ Lib.accHi (Lib.firstT b / 16) = 191) ∨
    (Lib.firstT b % 8 = 4 ∧ Lib.accLo (Lib.firstT b / 16) = 128 ∧ 128 ≤ Lib.accHi (Lib.firstT b / 16)) := by
  rcases Lib.firstT_low h with g | g | g | g | g | g | g
  · rw [Lib.firstT_C2 g]; decide
  · rw [Lib.firstT_E0 g]; decide
  · rw [Lib.firstT_E1 g]; decide
  · rw [Lib.firstT_ED g]; decide
  · rw [Lib.firstT_F0 g]; decide
  · rw [Lib.firstT_F1 g]; decide
  · rw [Lib.firstT_F4 g]; decide

theorem whole_of_more (l m : List UInt8) (h1 : 1 ≤ l.length) (h : l.length < (nextL (l ++ m)).2) : wholeL l = false := by
  have hne : l ++ m ≠ [] := by
    intro h0
    have := congrArg List.length h0
    rw [List.length_append] at this
    simp at this
    simp [this.1] at h1
  rw [width_eq _ hne] at h
  rw [getD_left l m 0 (by omega)] at h
  have g1 : 1 < l.length → ((l ++ m).getD 1 0).toNat = (l.getD 1 0).toNat := fun hh => by rw [getD_left l m 1 hh]
  have g2 : 2 < l.length → ((l ++ m).getD 2 0).toNat = (l.getD 2 0).toNat := fun hh => by rw [getD_left l m 2 hh]
  have u1 := ((l ++ m).getD 1 0).toNat_lt
  have u2 := ((l ++ m).getD 2 0).toNat_lt
  have u3 := ((l ++ m).getD 3 0).toNat_lt
  have hn : 1 ≤ (l ++ m).length := by rw [List.length_append]; omega
  unfold wholeL
  apply decide_eq_false
  generalize ((l ++ m).getD 1 0).toNat = c1 at *
  generalize ((l ++ m).getD 2 0).toNat = c2 at *
  generalize ((l ++ m).getD 3 0).toNat = c3 at *
  generalize (l ++ m).length = n at *
  generalize (l.getD 0 0).toNat = b0 at *
  generalize (l.getD 1 0).toNat = b1 at *
  generalize (l.getD 2 0).toNat = b2 at *
  by_cases hx : Lib.firstT b0 < 240
  · rw [← Lib.slow_eq n b0 c1 c2 c3 hn u1 u2 u3 hx] at h
    have hc := class_of b0 hx
    generalize Lib.firstT b0 % 8 = sz at *
    generalize Lib.accLo (Lib.firstT b0 / 16) = lo at *
    generalize Lib.accHi (Lib.firstT b0 / 16) = hi at *
    unfold Lib.slowN at h
    repeat' split at h
    all_goals (simp only at h; omega)
  · have := (first_big b0 hx n c1 c2 c3).1
    omega

theorem more_of_whole (l : List UInt8) (h1 : 1 ≤ l.length) (h3 : l.length ≤ 3) (h : wholeL l = false) : ∃ k, k < 16 ∧ l.length < (nextL (l ++ moreL k)).2 := by
  have u0 := (l.getD 0 0).toNat_lt
  have hw : ¬ _ := of_decide_eq_false h
  by_cases hx : Lib.firstT (l.getD 0 0).toNat < 240
  · have hc := class_of _ hx
    -- the width of what is tried, in numbers
    have key : ∀ m : List UInt8, m ≠ [] → (nextL (l ++ m)).2 = (Lib.slowN (l.length + m.length) (l.getD 0 0).toNat ((l ++ m).getD 1 0).toNat ((l ++ m).getD 2 0).toNat ((l ++ m).getD 3 0).toNat (Lib.firstT (l.getD 0 0).toNat % 8) (Lib.accLo (Lib.firstT (l.getD 0 0).toNat / 16)) (Lib.accHi (Lib.firstT (l.getD 0 0).toNat / 16))).2 := by
      intro m hm
      have hne : l ++ m ≠ [] := by simp [hm]
      rw [width_eq _ hne, getD_left l m 0 (by omega), List.length_append]
      rw [Lib.slow_eq _ _ _ _ _ (by omega) (UInt8.toNat_lt _) (UInt8.toNat_lt _) (UInt8.toNat_lt _) hx]
    match l, h1, h3 with
    | [c0], _, _ =>
      simp only [List.length_cons, List.length_nil] at hw key ⊢
      generalize Lib.firstT ([c0].getD 0 0).toNat % 8 = sz at *
      generalize Lib.accLo (Lib.firstT ([c0].getD 0 0).toNat / 16) = lo at *
      generalize Lib.accHi (Lib.firstT ([c0].getD 0 0).toNat / 16) = hi at *
      rcases hc with ⟨g1, g2, g3⟩ | ⟨g1, g2, g3⟩ | ⟨g1, g2, g3⟩ | ⟨g1, g2, g3⟩ | ⟨g1, g2, g3⟩
      · refine ⟨0, by decide, ?_⟩
        rw [show moreL 0 = [128] from rfl, key [128] (by simp)]
        simp [Lib.slowN, g1, g2, g3]
      · refine ⟨10, by decide, ?_⟩
        rw [show moreL 10 = [160, 128] from rfl, key [160, 128] (by simp)]
        simp [Lib.slowN, g1, g2, g3]
      · refine ⟨6, by decide, ?_⟩
        rw [show moreL 6 = [128, 128] from rfl, key [128, 128] (by simp)]
        have g4 : ¬ hi < 128 := by omega
        simp [Lib.slowN, g1, g2, g4]
      · refine ⟨14, by decide, ?_⟩
        rw [show moreL 14 = [144, 128, 128] from rfl, key [144, 128, 128] (by simp)]
        simp [Lib.slowN, g1, g2, g3]
      · refine ⟨12, by decide, ?_⟩
        rw [show moreL 12 = [128, 128, 128] from rfl, key [128, 128, 128] (by simp)]
        have g4 : ¬ hi < 128 := by omega
        simp [Lib.slowN, g1, g2, g4]
    | [c0, c1], _, _ =>
      have u1 := c1.toNat_lt
      have e1 : ([c0, c1].getD 1 0) = c1 := rfl
      have f1 : ∀ m : List UInt8, (([c0, c1] ++ m).getD 1 0) = c1 := fun _ => rfl
      rw [e1] at hw
      simp only [List.length_cons, List.length_nil] at hw key ⊢
      simp only [f1] at key
      generalize Lib.firstT ([c0, c1].getD 0 0).toNat % 8 = sz at *
      generalize Lib.accLo (Lib.firstT ([c0, c1].getD 0 0).toNat / 16) = lo at *
      generalize Lib.accHi (Lib.firstT ([c0, c1].getD 0 0).toNat / 16) = hi at *
      generalize c1.toNat = b1 at *
      have hb : ¬ (b1 < lo ∨ hi < b1) := by omega
      have hs : 3 ≤ sz := by omega
      by_cases h4 : sz = 4
      · refine ⟨6, by decide, ?_⟩
        rw [show moreL 6 = [128, 128] from rfl, key [128, 128] (by simp)]
        subst h4
        simp [Lib.slowN, hb]
      · obtain rfl : sz = 3 := by omega
        refine ⟨0, by decide, ?_⟩
        rw [show moreL 0 = [128] from rfl, key [128] (by simp)]
        simp [Lib.slowN, hb]
    | [c0, c1, c2], _, _ =>
      have u1 := c1.toNat_lt
      have u2 := c2.toNat_lt
      have e1 : ([c0, c1, c2].getD 1 0) = c1 := rfl
      have e2 : ([c0, c1, c2].getD 2 0) = c2 := rfl
      have f1 : ∀ m : List UInt8, (([c0, c1, c2] ++ m).getD 1 0) = c1 := fun _ => rfl
      have f2 : ∀ m : List UInt8, (([c0, c1, c2] ++ m).getD 2 0) = c2 := fun _ => rfl
      rw [e1, e2] at hw
      simp only [List.length_cons, List.length_nil] at hw key ⊢
      simp only [f1, f2] at key
      generalize Lib.firstT ([c0, c1, c2].getD 0 0).toNat % 8 = sz at *
      generalize Lib.accLo (Lib.firstT ([c0, c1, c2].getD 0 0).toNat / 16) = lo at *
      generalize Lib.accHi (Lib.firstT ([c0, c1, c2].getD 0 0).toNat / 16) = hi at *
      generalize c1.toNat = b1 at *
      generalize c2.toNat = b2 at *
      have hb : ¬ (b1 < lo ∨ hi < b1) := by omega
      have hb2 : ¬ (b2 < 128 ∨ 191 < b2) := by omega
      obtain rfl : sz = 4 := by omega
      refine ⟨0, by decide, ?_⟩
      rw [show moreL 0 = [128] from rfl, key [128] (by simp)]
      simp [Lib.slowN, hb, hb2]
  · have := (first_big _ hx 0 0 0 0).2
    exfalso
    apply hw
    exact ⟨by omega, .inl (by omega)⟩

theorem whole_long (l : List UInt8) (h : 4 ≤ l.length) : wholeL l = true := by
  have := firstT_lt (l.getD 0 0).toNat
  exact decide_eq_true ⟨by omega, .inl (by omega)⟩
theorem whole_ascii (l : List UInt8) (h : 1 ≤ l.length) (h0 : (l.getD 0 0).toNat < 128) : wholeL l = true := by
  refine decide_eq_true ⟨by omega, .inl ?_⟩
  unfold Lib.firstT
  rw [if_pos h0]
  omega
theorem whole_valid (l : List UInt8) (h : 1 ≤ l.length) (h1 : 1 < (nextL l).2) : wholeL l = true := by
  cases hw : wholeL l with
  | true => rfl
  | false =>
    exfalso
    have hle : (nextL l).2 ≤ l.length := by
      have hne : l ≠ [] := by intro h0; simp [h0] at h
      simp only [nextL, if_neg hne]
      exact Lib.decodeL_le l hne
    have h3 : l.length ≤ 3 := by
      rcases Nat.lt_or_ge 3 l.length with h4 | h4
      · rw [whole_long l h4] at hw; cases hw
      · exact h4
    obtain ⟨k, _, hk⟩ := more_of_whole l h h3 hw
    have hne : l ≠ [] := by intro h0; simp [h0] at h
    have hne2 : l ++ moreL k ≠ [] := by simp [hne]
    simp only [nextL, if_neg hne, if_neg hne2] at h1 hle hk
    have := take_dec (l ++ moreL k) (l.length)
    have e : (l ++ moreL k).take l.length = l := List.take_left
    rw [e] at this
    -- a sign of l stays as it is with bytes behind
    have hs := Lib.decodeN_shape l.length (l.getD 0 0).toNat (l.getD 1 0).toNat (l.getD 2 0).toNat (l.getD 3 0).toNat
    rw [Lib.decodeL_N] at h1 hle
    rw [Lib.decodeL_N, List.length_append, getD_left l _ 0 (by omega)] at hk
    have g1 : 1 < l.length → ((l ++ moreL k).getD 1 0).toNat = (l.getD 1 0).toNat := fun hh => by rw [getD_left l _ 1 hh]
    have g2 : 2 < l.length → ((l ++ moreL k).getD 2 0).toNat = (l.getD 2 0).toNat := fun hh => by rw [getD_left l _ 2 hh]
    generalize ((l ++ moreL k).getD 1 0).toNat = c1 at *
    generalize ((l ++ moreL k).getD 2 0).toNat = c2 at *
    generalize ((l ++ moreL k).getD 3 0).toNat = c3 at *
    generalize (l.getD 0 0).toNat = b0 at *
    generalize (l.getD 1 0).toNat = b1 at *
    generalize (l.getD 2 0).toNat = b2 at *
    generalize (l.getD 3 0).toNat = b3 at *
    rcases hs with ⟨q1, e⟩ | ⟨q1, q2, q3, q4, e⟩ | ⟨q1, q2, q3, q4, q5, q6, e⟩ | ⟨q1, q2, q3, q4, q5, q6, q7, e⟩ | e
    · rw [e] at h1; simp at h1
    · rw [g1 q2] at hk
      unfold Lib.decodeN at hk
      rw [if_neg (by omega), if_pos (by omega), if_pos (by omega)] at hk
      simp only at hk
      omega
    · rw [g1 (by omega), g2 q2] at hk
      unfold Lib.decodeN at hk
      rw [if_neg (by omega), if_neg (by omega), if_pos (by omega), if_pos (by omega)] at hk
      simp only at hk
      omega
    · omega
    · rw [e] at h1; simp at h1
end Go.Proofs.YtbkejjpkijjfaaaDoor
