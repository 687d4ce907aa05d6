/-
  More on signs and their bytes: what is written is read again; where bytes may be cut. No program is named here.
-/
import Derived.Test.YtbkejjpkijjfaaaDoorRefMath
namespace Go.Proofs.YtbkejjpkijjfaaaDoor
open Go

/-- The bytes of signs, one behind the other. -/
def encL (rs : List Nat) : List UInt8 := rs.flatMap fun (r : Nat) => Lib.encodeRune (r : Int)
theorem cleanL_enc (l : List UInt8) : cleanL l = encL (runes l) := rfl
theorem encL_cons (r : Nat) (rs : List Nat) : encL (r :: rs) = Lib.encodeRune (r : Int) ++ encL rs := by simp [encL]
theorem encL_append (a b : List Nat) : encL (a ++ b) = encL a ++ encL b := by simp [encL]
theorem encL_length (rs : List Nat) : (encL rs).length ≤ 4 * rs.length := by
  induction rs with
  | nil => simp [encL]
  | cons r t ih =>
    have := Lib.runeCells_le (r : Int)
    rw [Lib.runeCells_length] at this
    rw [encL_cons, List.length_append, List.length_cons]
    omega

theorem getD_left (a b : List UInt8) (i : Nat) (h : i < a.length) : (a ++ b).getD i 0 = a.getD i 0 := by
  simp [List.getD, List.getElem?_append, h]

/-- What was written for a sign is read as it. -/
theorem dec_enc (r : Nat) (h : Valid r) (t : List UInt8) : Lib.decodeL (Lib.encodeRune (r : Int) ++ t) = (r, (Lib.encodeRune (r : Int)).length) := by
  unfold Valid at h
  have hl := enc_length (r : Int)
  have hg : ∀ i, i < (Lib.encodeRuneZ (r : Int)).length → ((((Lib.encodeRune (r : Int) ++ t).getD i 0).toNat : Nat) : Int) = (Lib.encodeRuneZ (r : Int)).getD i 0 := fun i hi => by
    rw [getD_left _ _ _ (by rw [hl]; exact hi)]; exact enc_getD (r : Int) i hi
  have hn : (Lib.encodeRune (r : Int) ++ t).length = (Lib.encodeRuneZ (r : Int)).length + t.length := by rw [List.length_append, hl]
  rw [Lib.decodeL_N, hn, hl]
  clear hn hl
  by_cases h1 : r ≤ 127
  · have hZ := Lib.encodeRuneZ_one (r := (r : Int)) (by omega) (by omega)
    rw [hZ] at hg ⊢
    have q0 := hg 0 (by simp)
    simp only [List.getD_cons_zero] at q0
    clear hg
    generalize ((Lib.encodeRune (r : Int) ++ t).getD 0 0).toNat = b0 at *
    unfold Lib.decodeN
    rw [if_pos (by omega)]
    apply Prod.ext <;> simp only [List.length_cons, List.length_nil] <;> omega
  · by_cases h2 : r ≤ 2047
    · have hZ := Lib.encodeRuneZ_two (r := (r : Int)) (by omega) (by omega)
      rw [hZ] at hg ⊢
      have q0 := hg 0 (by simp)
      have q1 := hg 1 (by simp)
      simp only [List.getD_cons_zero, List.getD_cons_succ] at q0 q1
      clear hg
      generalize ((Lib.encodeRune (r : Int) ++ t).getD 0 0).toNat = b0 at *
      generalize ((Lib.encodeRune (r : Int) ++ t).getD 1 0).toNat = b1 at *
      simp only [List.length_cons, List.length_nil]
      unfold Lib.decodeN
      rw [if_neg (by omega), if_pos (by omega), if_pos (by omega)]
      apply Prod.ext <;> simp only <;> omega
    · by_cases h3 : r ≤ 65535
      · have hZ := Lib.encodeRuneZ_three (r := (r : Int)) (by omega)
        rw [hZ] at hg ⊢
        have q0 := hg 0 (by simp)
        have q1 := hg 1 (by simp)
        have q2 := hg 2 (by simp)
        simp only [List.getD_cons_zero, List.getD_cons_succ] at q0 q1 q2
        clear hg
        generalize ((Lib.encodeRune (r : Int) ++ t).getD 0 0).toNat = b0 at *
        generalize ((Lib.encodeRune (r : Int) ++ t).getD 1 0).toNat = b1 at *
        generalize ((Lib.encodeRune (r : Int) ++ t).getD 2 0).toNat = b2 at *
        simp only [List.length_cons, List.length_nil]
        unfold Lib.decodeN
        rw [if_neg (by omega), if_neg (by omega), if_pos (by omega), if_pos (by omega)]
        apply Prod.ext <;> simp only <;> omega
      · have hZ := Lib.encodeRuneZ_four (r := (r : Int)) (by omega) (by omega)
        rw [hZ] at hg ⊢
        have q0 := hg 0 (by simp)
        have q1 := hg 1 (by simp)
        have q2 := hg 2 (by simp)
        have q3 := hg 3 (by simp)
        simp only [List.getD_cons_zero, List.getD_cons_succ] at q0 q1 q2 q3
        clear hg
        generalize ((Lib.encodeRune (r : Int) ++ t).getD 0 0).toNat = b0 at *
        generalize ((Lib.encodeRune (r : Int) ++ t).getD 1 0).toNat = b1 at *
        generalize ((Lib.encodeRune (r : Int) ++ t).getD 2 0).toNat = b2 at *
        generalize ((Lib.encodeRune (r : Int) ++ t).getD 3 0).toNat = b3 at *
        simp only [List.length_cons, List.length_nil]
        unfold Lib.decodeN
        rw [if_neg (by omega), if_neg (by omega), if_neg (by omega), if_pos (by omega), if_pos (by omega)]
        apply Prod.ext <;> simp only <;> omega

theorem runes_enc_append : ∀ (rs : List Nat), (∀ r ∈ rs, Valid r) → ∀ b : List UInt8, runes (encL rs ++ b) = rs ++ runes b
  | [], _, b => by simp [encL]
  | r :: rs, h, b => by
    have hl := Lib.runeCells_le (r : Int)
    rw [Lib.runeCells_length] at hl
    rw [encL_cons, List.append_assoc]
    have hne : Lib.encodeRune (r : Int) ++ (encL rs ++ b) ≠ [] := by
      intro h0
      have := congrArg List.length h0
      simp at this
      simp [this.1] at hl
    rw [runes_step _ hne, dec_enc r (h r (by simp)) _, List.drop_left, runes_enc_append rs (fun x hx => h x (by simp [hx])) b]
    simp
theorem runes_enc (rs : List Nat) (h : ∀ r ∈ rs, Valid r) : runes (encL rs) = rs := by
  have := runes_enc_append rs h []
  simpa [runes_nil] using this
theorem runes_clean (l : List UInt8) : runes (cleanL l) = runes l := runes_enc _ (runes_valid l)
theorem clean_clean (l : List UInt8) : cleanL (cleanL l) = cleanL l := by
  show encL (runes (cleanL l)) = _
  rw [runes_clean]; rfl
theorem clean_length (l : List UInt8) : (cleanL l).length ≤ 4 * l.length := by
  have h1 := encL_length (runes l)
  have h2 := runes_length l
  rw [cleanL_enc]
  omega

/-- A sign is told by its own bytes. -/
theorem decodeN_take (n m b0 b1 b2 b3 : Nat) (hmn : m ≤ n) (h : (Lib.decodeN n b0 b1 b2 b3).2 ≤ m) : Lib.decodeN m b0 b1 b2 b3 = Lib.decodeN n b0 b1 b2 b3 := by
  have hs := Lib.decodeN_shape n b0 b1 b2 b3
  have hm := Lib.decodeN_shape m b0 b1 b2 b3
  rcases hs with ⟨h1, e⟩ | ⟨h1, h2, h3, h4, e⟩ | ⟨h1, h2, h3, h4, h5, h6, e⟩ | ⟨h1, h2, h3, h4, h5, h6, h7, e⟩ | e
  · rw [e]; unfold Lib.decodeN; rw [if_pos h1]
  · rw [e] at h ⊢
    simp only at h
    unfold Lib.decodeN
    rw [if_neg (by omega), if_pos (by omega), if_pos (by omega)]
  · rw [e] at h ⊢
    simp only at h
    unfold Lib.decodeN
    rw [if_neg (by omega), if_neg (by omega), if_pos (by omega), if_pos (by omega)]
  · rw [e] at h ⊢
    simp only at h
    unfold Lib.decodeN
    rw [if_neg (by omega), if_neg (by omega), if_neg (by omega), if_pos (by omega), if_pos (by omega)]
  · rcases hm with ⟨h1, e'⟩ | ⟨h1, h2, h3, h4, e'⟩ | ⟨h1, h2, h3, h4, h5, h6, e'⟩ | ⟨h1, h2, h3, h4, h5, h6, h7, e'⟩ | e'
    · rw [e']
      unfold Lib.decodeN
      rw [if_pos h1]
    · exfalso
      unfold Lib.decodeN at e
      rw [if_neg (by omega), if_pos (by omega), if_pos (by omega)] at e
      simp at e
    · exfalso
      unfold Lib.decodeN at e
      rw [if_neg (by omega), if_neg (by omega), if_pos (by omega), if_pos (by omega)] at e
      simp at e
    · exfalso
      unfold Lib.decodeN at e
      rw [if_neg (by omega), if_neg (by omega), if_neg (by omega), if_pos (by omega), if_pos (by omega)] at e
      simp at e
    · rw [e, e']

theorem decodeN_first (n b0 b1 b2 b3 c1 c2 c3 : Nat) (h1 : 1 < n → b1 = c1) (h2 : 2 < n → b2 = c2) (h3 : 3 < n → b3 = c3) : Lib.decodeN n b0 b1 b2 b3 = Lib.decodeN n b0 c1 c2 c3 := by
  by_cases k1 : 1 < n
  · rw [h1 k1]
    by_cases k2 : 2 < n
    · rw [h2 k2]
      by_cases k3 : 3 < n
      · rw [h3 k3]
      · simp only [Lib.decodeN, k3, false_and, and_false, if_false]
    · have k3 : ¬ 3 < n := by omega
      simp only [Lib.decodeN, k2, k3, false_and, and_false, if_false]
  · have k2 : ¬ 2 < n := by omega
    have k3 : ¬ 3 < n := by omega
    simp only [Lib.decodeN, k1, k2, k3, false_and, and_false, if_false]

theorem getD_take (l : List UInt8) (m i : Nat) (h : i < m) : (l.take m).getD i 0 = l.getD i 0 := by
  simp [List.getD, h]
theorem take_dec (x : List UInt8) (m : Nat) (h : (Lib.decodeL x).2 ≤ m) : Lib.decodeL (x.take m) = Lib.decodeL x := by
  have hw := Lib.decodeL_width x
  have hm1 : 0 < m := by omega
  by_cases hm : x.length ≤ m
  · rw [List.take_of_length_le hm]
  · rw [Lib.decodeL_N] at h ⊢
    rw [Lib.decodeL_N x, List.length_take, Nat.min_eq_left (by omega), getD_take x m 0 hm1]
    rw [decodeN_first m _ _ _ _ (x.getD 1 0).toNat (x.getD 2 0).toNat (x.getD 3 0).toNat (fun h => by rw [getD_take x m 1 h]) (fun h => by rw [getD_take x m 2 h]) (fun h => by rw [getD_take x m 3 h])]
    exact decodeN_take _ _ _ _ _ _ (by omega) h

/-- Places at which a sign ends, found from the front. -/
inductive Bound (l : List UInt8) : Nat → Prop
  | zero : Bound l 0
  | step {k : Nat} : Bound l k → k < l.length → Bound l (k + (Lib.decodeL (l.drop k)).2)
theorem Bound.le {l : List UInt8} {k : Nat} (h : Bound l k) : k ≤ l.length := by
  induction h with
  | zero => omega
  | @step k _ hk _ =>
    have hne : l.drop k ≠ [] := by
      intro h0
      have := congrArg List.length h0
      simp at this
      omega
    have := Lib.decodeL_le _ hne
    rw [List.length_drop] at this
    omega
theorem Bound.runes {l : List UInt8} {k : Nat} (h : Bound l k) : ∃ rs, ∀ m, k ≤ m → YtbkejjpkijjfaaaDoor.runes (l.take m) = rs ++ YtbkejjpkijjfaaaDoor.runes ((l.take m).drop k) := by
  induction h with
  | zero => exact ⟨[], fun m _ => by simp⟩
  | @step k hb hk ih =>
    obtain ⟨rs, ih⟩ := ih
    refine ⟨rs ++ [(Lib.decodeL (l.drop k)).1], fun m hm => ?_⟩
    have hw := Lib.decodeL_width (l.drop k)
    rw [ih m (by omega)]
    have e : (l.take m).drop k = (l.drop k).take (m - k) := List.drop_take
    have hne : (l.take m).drop k ≠ [] := by
      intro h0
      have := congrArg List.length h0
      simp at this
      omega
    have hd : Lib.decodeL ((l.take m).drop k) = Lib.decodeL (l.drop k) := by rw [e]; exact take_dec _ _ (by omega)
    rw [runes_step _ hne, hd, List.drop_drop]
    simp
theorem Bound.cut {l : List UInt8} {k : Nat} (h : Bound l k) : YtbkejjpkijjfaaaDoor.runes (l.take k) ++ YtbkejjpkijjfaaaDoor.runes (l.drop k) = YtbkejjpkijjfaaaDoor.runes l := by
  obtain ⟨rs, hr⟩ := h.runes
  have h1 := hr k (Nat.le_refl _)
  have h2 := hr l.length h.le
  rw [List.drop_eq_nil_of_le (by simp; omega), runes_nil, List.append_nil] at h1
  rw [List.take_length] at h2
  rw [h1, h2]
theorem Bound.clean {l : List UInt8} {k : Nat} (h : Bound l k) : cleanL (l.take k) ++ cleanL (l.drop k) = cleanL l := by
  rw [cleanL_enc, cleanL_enc, cleanL_enc, ← encL_append, h.cut]
end Go.Proofs.YtbkejjpkijjfaaaDoor
