/-
  Layer 7 and what it stands on, part 2 (TextMath TextMake SwapMath).
-/
import Derived.Test.YtoaponaljkhlfaaDoorPk1
namespace Go.Proofs.YtoaponaljkhlfaaDoor
section
open Go
/-- What a line holds for a sign. -/
def plR (r : Nat) : List Nat := if r = 9 ∨ r = 10 ∨ r = 13 then [32] else if ctlL (r : Int) = true then [] else [r]
/-- A text as a line may hold it. -/
def plainL (l : List UInt8) : List UInt8 := encL ((runes l).flatMap plR)
def Fine (r : Nat) : Prop := Valid r ∧ ctlL (r : Int) = false
theorem plR_fine (r : Nat) (h : Valid r) : ∀ x ∈ plR r, Fine x := by
  intro x hx
  unfold plR at hx
  split at hx
  · simp at hx; subst hx; exact ⟨.inl (by omega), by decide⟩
  · split at hx
    · simp at hx
    · rename_i h2
      simp at hx; subst hx
      exact ⟨h, by simpa using h2⟩
theorem plR_of (r : Nat) (h : Fine r) : plR r = [r] := by
  have h2 := h.2
  unfold plR
  rw [if_neg, if_neg (by simp [h2])]
  rintro (rfl | rfl | rfl) <;> exact absurd h2 (by decide)
/-- Texts that a line may hold. -/
def PlainP (l : List UInt8) : Prop := ∃ rs, (∀ r ∈ rs, Fine r) ∧ l = encL rs
theorem PlainP.nil : PlainP [] := ⟨[], by simp, rfl⟩
theorem PlainP.append {a b : List UInt8} (ha : PlainP a) (hb : PlainP b) : PlainP (a ++ b) := by
  obtain ⟨r, h1, rfl⟩ := ha
  obtain ⟨s, h2, rfl⟩ := hb
  exact ⟨r ++ s, fun x hx => (List.mem_append.1 hx).elim (h1 x) (h2 x), (encL_append r s).symm⟩
theorem plain_P (l : List UInt8) : PlainP (plainL l) :=
  ⟨_, fun x hx => by
    obtain ⟨r, hr, hx⟩ := List.mem_flatMap.1 hx
    exact plR_fine r (runes_valid l r hr) x hx, rfl⟩
theorem flatMap_fine (rs : List Nat) (h : ∀ r ∈ rs, Fine r) : rs.flatMap plR = rs := by
  induction rs with
  | nil => rfl
  | cons r t ih => rw [List.flatMap_cons, plR_of r (h r (by simp)), ih (fun x hx => h x (by simp [hx]))]; rfl
theorem PlainP.plain {l : List UInt8} (h : PlainP l) : plainL l = l := by
  obtain ⟨rs, h1, rfl⟩ := h
  unfold plainL
  rw [runes_enc rs (fun r hr => (h1 r hr).1), flatMap_fine rs h1]
theorem plain_iff (l : List UInt8) : plainL l = l ↔ PlainP l := ⟨fun h => h ▸ plain_P l, PlainP.plain⟩
theorem PlainP.clean {l : List UInt8} (h : PlainP l) : cleanL l = l := by
  obtain ⟨rs, h1, rfl⟩ := h
  rw [cleanL_enc, runes_enc rs (fun r hr => (h1 r hr).1)]
theorem plain_length (l : List UInt8) : (plainL l).length ≤ 4 * l.length := by
  have h1 := encL_length ((runes l).flatMap plR)
  have h2 : ((runes l).flatMap plR).length ≤ (runes l).length := by
    generalize runes l = rs
    induction rs with
    | nil => simp
    | cons r t ih =>
      have : (plR r).length ≤ 1 := by
        unfold plR
        split
        · simp
        · split <;> simp
      rw [List.flatMap_cons, List.length_append, List.length_cons]
      omega
  have h3 := runes_length l
  unfold plainL
  omega
theorem zlen_enc : ∀ rs : List Nat, (∀ r ∈ rs, Valid r) → zlen (encL rs) = (encL (rs.takeWhile fun r => decide (ofL (r : Int) = 0))).length
  | [], _ => rfl
  | r :: rs, h => by
    have hd := dec_enc r (h r (by simp)) (encL rs)
    rw [encL_cons]
    by_cases hz : ofL (r : Int) = 0
    · rw [zlen_zero _ (enc_ne _ _) (by rw [hd]; exact hz), hd, List.takeWhile_cons_of_pos (by simpa using hz), encL_cons, List.length_append]
      simp only [List.drop_left]
      rw [zlen_enc rs (fun x hx => h x (by simp [hx]))]
    · rw [zlen_wide _ (by rw [hd]; exact hz), List.takeWhile_cons_of_neg (by simpa using hz)]
      rfl
theorem PlainP.first {l : List UInt8} (h : PlainP l) (hl : l ≠ []) : PlainP (l.take (clen l)) ∧ PlainP (l.drop (clen l)) := by
  obtain ⟨rs, h1, rfl⟩ := h
  obtain ⟨r, t, rfl⟩ : ∃ r t, rs = r :: t := by
    cases rs with
    | nil => exact absurd rfl hl
    | cons r t => exact ⟨r, t, rfl⟩
  have hd := dec_enc r (h1 r (by simp)).1 (encL t)
  have hz := zlen_enc t (fun x hx => (h1 x (by simp [hx])).1)
  have hc : clen (encL (r :: t)) = (encL (r :: t.takeWhile fun r => decide (ofL (r : Int) = 0))).length := by
    unfold clen
    rw [encL_cons, hd, encL_cons, List.length_append]
    simp only [List.drop_left]
    rw [hz]
  have he : encL (r :: t) = encL (r :: t.takeWhile fun r => decide (ofL (r : Int) = 0)) ++ encL (t.dropWhile fun r => decide (ofL (r : Int) = 0)) := by
    rw [← encL_append, List.cons_append, List.takeWhile_append_dropWhile]
  refine ⟨⟨r :: t.takeWhile fun r => decide (ofL (r : Int) = 0), fun x hx => ?_, ?_⟩, ⟨t.dropWhile fun r => decide (ofL (r : Int) = 0), fun x hx => ?_, ?_⟩⟩
  · rcases List.mem_cons.1 hx with rfl | hx
    · exact h1 _ (by simp)
    · exact h1 x (by simp [(List.takeWhile_sublist _).subset hx])
  · rw [hc]
    conv => lhs; rw [he]
    rw [List.take_left]
  · exact h1 x (by simp [(List.dropWhile_sublist _).subset hx])
  · rw [hc]
    conv => lhs; rw [he]
    rw [List.drop_left]
theorem cut_P (l : List UInt8) : PlainP l → ∀ c ∈ cutL l, PlainP c := by
  induction l using cut_induct with
  | h0 => intro _ c hc; simp [cutL_nil] at hc
  | h1 l hl ih =>
    intro h c hc
    obtain ⟨h1, h2⟩ := h.first hl
    rw [cutL_step l hl, List.mem_cons] at hc
    rcases hc with rfl | hc
    · exact h1
    · exact ih h2 c hc
theorem flat_P (cs : List (List UInt8)) (h : ∀ c ∈ cs, PlainP c) : PlainP cs.flatten := by
  induction cs with
  | nil => exact PlainP.nil
  | cons c t ih => rw [List.flatten_cons]; exact (h c (by simp)).append (ih fun x hx => h x (by simp [hx]))
/-- Behind a cluster a sign of some width begins. -/
def Wid (y : List UInt8) : Prop := y = [] ∨ ofL ((Lib.decodeL y).1 : Int) ≠ 0
theorem zlen_stop_aux : ∀ (n : Nat) (l : List UInt8), l.length ≤ n → Wid (l.drop (zlen l))
  | 0, l, h => by
    obtain rfl : l = [] := List.eq_nil_of_length_eq_zero (by omega)
    exact .inl (by simp)
  | n + 1, l, h => by
    by_cases hl : l = []
    · subst hl; exact .inl (by simp)
    · by_cases hz : ofL ((Lib.decodeL l).1 : Int) = 0
      · have hd := drop_lt l hl
        have ih := zlen_stop_aux n (l.drop (Lib.decodeL l).2) (by omega)
        rw [zlen_zero l hl hz, ← List.drop_drop]
        exact ih
      · rw [zlen_wide l hz]; exact .inr (by simpa using hz)
theorem clen_stop (l : List UInt8) : Wid (l.drop (clen l)) := by
  unfold clen
  rw [← List.drop_drop]
  exact zlen_stop_aux _ _ (Nat.le_refl _)
/-- Where cluster number k begins. -/
def pos (cs : List (List UInt8)) (k : Nat) : Nat := (cs.take k).flatten.length
theorem pos_zero (cs : List (List UInt8)) : pos cs 0 = 0 := rfl
theorem pos_all (cs : List (List UInt8)) (k : Nat) (h : cs.length ≤ k) : pos cs k = cs.flatten.length := by
  unfold pos; rw [List.take_of_length_le h]
theorem pos_cons (c : List UInt8) (cs : List (List UInt8)) (k : Nat) : pos (c :: cs) (k + 1) = c.length + pos cs k := by
  simp [pos]
theorem pos_split (cs : List (List UInt8)) (k : Nat) : cs.flatten = (cs.take k).flatten ++ (cs.drop k).flatten := by
  rw [← List.flatten_append, List.take_append_drop]
theorem take_pos (cs : List (List UInt8)) (k : Nat) : cs.flatten.take (pos cs k) = (cs.take k).flatten := by
  conv => lhs; rw [pos_split cs k]
  exact List.take_left
theorem drop_pos (cs : List (List UInt8)) (k : Nat) : cs.flatten.drop (pos cs k) = (cs.drop k).flatten := by
  conv => lhs; rw [pos_split cs k]
  exact List.drop_left
theorem pos_succ (cs : List (List UInt8)) (k : Nat) (h : k < cs.length) : pos cs (k + 1) = pos cs k + (cs.getD k []).length := by
  unfold pos
  rw [List.take_succ_eq_append_getElem h, List.flatten_append, List.length_append]
  simp [List.getD, h]
theorem pos_le_succ (cs : List (List UInt8)) (k : Nat) : pos cs k ≤ pos cs (k + 1) := by
  by_cases h : k < cs.length
  · rw [pos_succ cs k h]; omega
  · rw [pos_all cs k (by omega), pos_all cs (k + 1) (by omega)]; exact Nat.le_refl _
theorem pos_mono (cs : List (List UInt8)) {j k : Nat} (h : j ≤ k) : pos cs j ≤ pos cs k := by
  induction h with
  | refl => exact Nat.le_refl _
  | step _ ih => exact Nat.le_trans ih (pos_le_succ cs _)
theorem pos_le (cs : List (List UInt8)) (k : Nat) : pos cs k ≤ cs.flatten.length := by
  rw [← pos_all cs (max k cs.length) (by omega)]
  exact pos_mono cs (by omega)
/-- No cluster is empty. -/
def Full (cs : List (List UInt8)) : Prop := ∀ c ∈ cs, c ≠ []
theorem cut_full (l : List UInt8) : Full (cutL l) := fun c hc => (cut_mem l c hc).1
theorem pos_lt_succ {cs : List (List UInt8)} (hf : Full cs) {k : Nat} (h : k < cs.length) : pos cs k < pos cs (k + 1) := by
  rw [pos_succ cs k h]
  have : (cs.getD k []) ≠ [] := by
    have e : cs.getD k [] = cs[k] := by simp [List.getD, h]
    rw [e]
    exact hf _ (List.getElem_mem h)
  have := List.length_pos_iff.2 this
  omega
theorem pos_lt {cs : List (List UInt8)} (hf : Full cs) {j k : Nat} (h : j < k) (hk : k ≤ cs.length) : pos cs j < pos cs k :=
  Nat.lt_of_lt_of_le (pos_lt_succ hf (by omega)) (pos_mono cs h)
theorem pos_inj {cs : List (List UInt8)} (hf : Full cs) {j k : Nat} (hj : j ≤ cs.length) (hk : k ≤ cs.length) (h : pos cs j = pos cs k) : j = k := by
  rcases Nat.lt_trichotomy j k with h1 | h1 | h1
  · have := pos_lt hf h1 hk; omega
  · exact h1
  · have := pos_lt hf h1 hj; omega
theorem pos_lt_iff {cs : List (List UInt8)} (hf : Full cs) {j k : Nat} (hk : k ≤ cs.length) : pos cs j < pos cs k ↔ j < k :=
  ⟨fun h => Classical.byContradiction fun h1 => by have := pos_mono cs (Nat.le_of_not_lt h1); omega, fun h => pos_lt hf h hk⟩
/-- The number of the greatest bound that is not above n (0, if none is). -/
def bk : List (List UInt8) → Int → Nat
  | [], _ => 0
  | c :: cs, n => if (c.length : Int) ≤ n then bk cs (n - c.length) + 1 else 0
/-- The number of the least bound that is not below n (that of the end, if none is). -/
def ok : List (List UInt8) → Int → Nat
  | [], _ => 0
  | c :: cs, n => if n ≤ 0 then 0 else ok cs (n - c.length) + 1
theorem bk_le : ∀ (cs : List (List UInt8)) (n : Int), bk cs n ≤ cs.length
  | [], _ => Nat.le_refl _
  | c :: cs, n => by
    unfold bk
    split
    · have := bk_le cs (n - c.length); simp; omega
    · omega
theorem ok_le : ∀ (cs : List (List UInt8)) (n : Int), ok cs n ≤ cs.length
  | [], _ => Nat.le_refl _
  | c :: cs, n => by
    unfold ok
    split
    · omega
    · have := ok_le cs (n - c.length); simp; omega
theorem bk_spec : ∀ (cs : List (List UInt8)) (n : Int), (bk cs n = 0 ∨ (pos cs (bk cs n) : Int) ≤ n) ∧ (bk cs n < cs.length → n < (pos cs (bk cs n + 1) : Int))
  | [], _ => ⟨.inl rfl, fun h => absurd h (by simp [bk])⟩
  | c :: cs, n => by
    obtain ⟨h1, h2⟩ := bk_spec cs (n - c.length)
    unfold bk
    split
    · rename_i h
      refine ⟨.inr ?_, fun h3 => ?_⟩
      · rw [pos_cons]
        rcases h1 with h1 | h1
        · rw [h1, pos_zero]; omega
        · omega
      · rw [pos_cons]
        have := h2 (by simpa using h3)
        omega
    · rename_i h
      refine ⟨.inl rfl, fun _ => ?_⟩
      rw [pos_cons, pos_zero]
      omega
theorem ok_spec : ∀ (cs : List (List UInt8)) (n : Int), (ok cs n = cs.length ∨ n ≤ (pos cs (ok cs n) : Int)) ∧ (0 < ok cs n → (pos cs (ok cs n - 1) : Int) < n)
  | [], _ => ⟨.inl rfl, fun h => absurd h (by simp [ok])⟩
  | c :: cs, n => by
    obtain ⟨h1, h2⟩ := ok_spec cs (n - c.length)
    unfold ok
    split
    · rename_i h
      exact ⟨.inr (by rw [pos_zero]; omega), fun h3 => absurd h3 (by simp)⟩
    · rename_i h
      refine ⟨?_, fun _ => ?_⟩
      · rcases h1 with h1 | h1
        · exact .inl (by simp [h1])
        · exact .inr (by rw [pos_cons]; omega)
      · by_cases h0 : 0 < ok cs (n - c.length)
        · have := h2 h0
          obtain ⟨m, hm⟩ : ∃ m, ok cs (n - c.length) = m + 1 := ⟨ok cs (n - c.length) - 1, by omega⟩
          rw [hm] at this ⊢
          simp only [Nat.add_sub_cancel] at this ⊢
          rw [pos_cons]; omega
        · have : ok cs (n - c.length) = 0 := by omega
          rw [this]
          simp only [Nat.zero_add, Nat.sub_self, pos_zero]
          omega
theorem bk_uniq {cs : List (List UInt8)} {n : Int} {j : Nat} (h1 : j ≤ cs.length) (h2 : j = 0 ∨ (pos cs j : Int) ≤ n) (h3 : j < cs.length → n < (pos cs (j + 1) : Int)) : bk cs n = j := by
  obtain ⟨a, b⟩ := bk_spec cs n
  have c := bk_le cs n
  rcases Nat.lt_trichotomy (bk cs n) j with h | h | h
  · have := b (by omega)
    have m := pos_mono cs (show bk cs n + 1 ≤ j by omega)
    rcases h2 with h2 | h2 <;> omega
  · exact h
  · have := h3 (by omega)
    have m := pos_mono cs (show j + 1 ≤ bk cs n by omega)
    rcases a with a | a <;> omega
theorem ok_uniq {cs : List (List UInt8)} {n : Int} {j : Nat} (h1 : j ≤ cs.length) (h2 : j = cs.length ∨ n ≤ (pos cs j : Int)) (h3 : 0 < j → (pos cs (j - 1) : Int) < n) : ok cs n = j := by
  obtain ⟨a, b⟩ := ok_spec cs n
  have c := ok_le cs n
  rcases Nat.lt_trichotomy (ok cs n) j with h | h | h
  · have := h3 (by omega)
    have m := pos_mono cs (show ok cs n ≤ j - 1 by omega)
    rcases a with a | a <;> omega
  · exact h
  · have := b (by omega)
    have m := pos_mono cs (show j ≤ ok cs n - 1 by omega)
    rcases h2 with h2 | h2 <;> omega
theorem bk_pos {cs : List (List UInt8)} (hf : Full cs) {k : Nat} (hk : k ≤ cs.length) : bk cs (pos cs k : Int) = k :=
  bk_uniq hk (.inr (Int.le_refl _)) fun h => by have := pos_lt_succ hf h; omega
theorem ok_pos {cs : List (List UInt8)} (hf : Full cs) {k : Nat} (hk : k ≤ cs.length) : ok cs (pos cs k : Int) = k :=
  ok_uniq hk (.inr (Int.le_refl _)) fun h => by have := pos_lt hf (show k - 1 < k by omega) hk; omega
theorem bk_all (cs : List (List UInt8)) (n : Int) (h : (cs.flatten.length : Int) ≤ n) : bk cs n = cs.length :=
  bk_uniq (Nat.le_refl _) (.inr (by rw [pos_all cs _ (Nat.le_refl _)]; exact h)) fun h => absurd h (Nat.lt_irrefl _)
theorem ok_nonpos (cs : List (List UInt8)) (n : Int) (h : n ≤ 0) : ok cs n = 0 :=
  ok_uniq (Nat.zero_le _) (.inr (by rw [pos_zero]; omega)) fun h => absurd h (Nat.lt_irrefl _)
theorem bk_ge {cs : List (List UInt8)} {n : Int} {k : Nat} (hk : k ≤ cs.length) (h : (pos cs k : Int) ≤ n) : k ≤ bk cs n := by
  refine Classical.byContradiction fun hc => ?_
  have h1 := (bk_spec cs n).2 (by omega)
  have := pos_mono cs (show bk cs n + 1 ≤ k by omega)
  omega
theorem bk_lt {cs : List (List UInt8)} {n : Int} {k : Nat} (h0 : 0 < k) (h : n < (pos cs k : Int)) : bk cs n < k := by
  refine Classical.byContradiction fun hc => ?_
  have := pos_mono cs (show k ≤ bk cs n by omega)
  rcases (bk_spec cs n).1 with h1 | h1 <;> omega
theorem ok_le_of {cs : List (List UInt8)} {n : Int} {k : Nat} (h : n ≤ (pos cs k : Int)) : ok cs n ≤ k := by
  refine Classical.byContradiction fun hc => ?_
  have h1 := (ok_spec cs n).2 (by omega)
  have := pos_mono cs (show k ≤ ok cs n - 1 by omega)
  omega
theorem ok_gt {cs : List (List UInt8)} {n : Int} {k : Nat} (hk : k < cs.length) (h : (pos cs k : Int) < n) : k < ok cs n := by
  refine Classical.byContradiction fun hc => ?_
  have := pos_mono cs (show ok cs n ≤ k by omega)
  rcases (ok_spec cs n).1 with h1 | h1 <;> omega
/-- One bound ahead, one behind. -/
theorem bk_prev {cs : List (List UInt8)} (hf : Full cs) {k : Nat} (hk : k ≤ cs.length) : bk cs ((pos cs k : Int) - 1) = k - 1 := by
  refine bk_uniq (by omega) ?_ fun h => ?_
  · by_cases h : k = 0
    · exact .inl (by omega)
    · have := pos_lt hf (show k - 1 < k by omega) hk
      exact .inr (by omega)
  · by_cases h0 : k = 0
    · subst h0
      have := pos_lt_succ hf h
      simp only [Nat.zero_sub, pos_zero] at *
      omega
    · rw [show k - 1 + 1 = k by omega]; omega
theorem ok_next {cs : List (List UInt8)} (hf : Full cs) {k : Nat} (hk : k ≤ cs.length) : ok cs ((pos cs k : Int) + 1) = min (k + 1) cs.length := by
  by_cases h : k < cs.length
  · rw [Nat.min_eq_left (by omega)]
    refine ok_uniq (by omega) (.inr ?_) fun _ => ?_
    · have := pos_lt_succ hf h; omega
    · rw [Nat.add_sub_cancel]; omega
  · rw [Nat.min_eq_right (by omega)]
    refine ok_uniq (Nat.le_refl _) (.inl rfl) fun h0 => ?_
    have := pos_lt hf (show cs.length - 1 < cs.length by omega) (Nat.le_refl _)
    rw [show k = cs.length by omega]; omega
/-- Texts between bounds, cut again. -/
theorem cut_dropK : ∀ (k : Nat) (l : List UInt8), cutL ((cutL l).drop k).flatten = (cutL l).drop k
  | 0, l => by rw [List.drop_zero, cutL_flatten]
  | k + 1, l => by
    by_cases hl : l = []
    · subst hl; simp [cutL_nil]
    · rw [cutL_step l hl, List.drop_succ_cons]
      exact cut_dropK k _
theorem drop_wid : ∀ (k : Nat) (l : List UInt8), 0 < k → Wid ((cutL l).drop k).flatten
  | 0, l, h => absurd h (Nat.lt_irrefl _)
  | k + 1, l, _ => by
    by_cases hl : l = []
    · subst hl; exact .inl (by simp [cutL_nil])
    · rw [cutL_step l hl, List.drop_succ_cons]
      cases k with
      | zero => rw [List.drop_zero, cutL_flatten]; exact clen_stop l
      | succ k => exact drop_wid (k + 1) _ (by omega)
theorem P_take {l : List UInt8} (h : PlainP l) (k : Nat) : PlainP ((cutL l).take k).flatten := flat_P _ fun c hc => cut_P l h c (List.mem_of_mem_take hc)
theorem P_drop {l : List UInt8} (h : PlainP l) (k : Nat) : PlainP ((cutL l).drop k).flatten := flat_P _ fun c hc => cut_P l h c (List.mem_of_mem_drop hc)
theorem cut_join {a y : List UInt8} (ha : PlainP a) (hy : Wid y) : cutL (a ++ y) = cutL a ++ cutL y := by
  have := cut_join_wide a y hy
  rwa [ha.clean] at this
theorem cut_takeK {l : List UInt8} (h : PlainP l) (k : Nat) : cutL ((cutL l).take k).flatten = (cutL l).take k := by
  by_cases h0 : k = 0
  · subst h0; simp [cutL_nil]
  · have h1 := cut_join (P_take h k) (drop_wid k l (by omega))
    rw [← pos_split, cutL_flatten, cut_dropK] at h1
    have h2 : (cutL l).take k ++ (cutL l).drop k = cutL ((cutL l).take k).flatten ++ (cutL l).drop k := by rw [List.take_append_drop]; exact h1
    exact (List.append_cancel_right h2).symm
end
section
open Go
/-- Back to a bound, on to a bound. -/
def backL (l : List UInt8) (n : Int) : Nat := pos (cutL l) (bk (cutL l) n)
def onL (l : List UInt8) (n : Int) : Nat := pos (cutL l) (ok (cutL l) n)
theorem backL_le (l : List UInt8) (n : Int) : backL l n ≤ l.length := by
  have := pos_le (cutL l) (bk (cutL l) n)
  rwa [cutL_flatten] at this
theorem onL_le (l : List UInt8) (n : Int) : onL l n ≤ l.length := by
  have := pos_le (cutL l) (ok (cutL l) n)
  rwa [cutL_flatten] at this
theorem backL_all (l : List UInt8) (n : Int) (h : (l.length : Int) ≤ n) : backL l n = l.length := by
  unfold backL
  rw [bk_all _ _ (by rw [cutL_flatten]; exact h), pos_all _ _ (Nat.le_refl _), cutL_flatten]
theorem backL_bound (l : List UInt8) (n : Int) (h : 0 ≤ n) : (backL l n : Int) ≤ n := by
  rcases (bk_spec (cutL l) n).1 with h1 | h1
  · unfold backL; rw [h1, pos_zero]; omega
  · exact h1
/-- A bound of a text. -/
def IsB (l : List UInt8) (n : Nat) : Prop := ∃ k, k ≤ (cutL l).length ∧ n = pos (cutL l) k
theorem isB_back (l : List UInt8) (n : Int) : IsB l (backL l n) := ⟨_, bk_le _ _, rfl⟩
theorem isB_on (l : List UInt8) (n : Int) : IsB l (onL l n) := ⟨_, ok_le _ _, rfl⟩
theorem isB_zero (l : List UInt8) : IsB l 0 := ⟨0, Nat.zero_le _, rfl⟩
theorem isB_all (l : List UInt8) : IsB l l.length := ⟨_, Nat.le_refl _, by rw [pos_all _ _ (Nat.le_refl _), cutL_flatten]⟩
theorem IsB.le {l : List UInt8} {n : Nat} (h : IsB l n) : n ≤ l.length := by
  obtain ⟨k, _, rfl⟩ := h
  have := pos_le (cutL l) k
  rwa [cutL_flatten] at this
theorem IsB.back {l : List UInt8} {n : Nat} (h : IsB l n) : backL l (n : Int) = n := by
  obtain ⟨k, hk, rfl⟩ := h
  unfold backL
  rw [bk_pos (cut_full l) hk]
theorem IsB.on {l : List UInt8} {n : Nat} (h : IsB l n) : onL l (n : Int) = n := by
  obtain ⟨k, hk, rfl⟩ := h
  unfold onL
  rw [ok_pos (cut_full l) hk]
theorem isB_iff (l : List UInt8) (n : Nat) : IsB l n ↔ backL l (n : Int) = n := ⟨IsB.back, fun h => h ▸ isB_back l _⟩
theorem boundsL_pos (l : List UInt8) : boundsL l = (List.range ((cutL l).length + 1)).map (pos (cutL l)) := by
  refine List.ext_getElem (by simp [boundsL, bnd_length]) fun i h1 h2 => ?_
  have hi : i ≤ (cutL l).length := by
    have : (boundsL l).length = (cutL l).length + 1 := bnd_length _ _
    omega
  have h := bnd_getD 0 (cutL l) i hi
  rw [Nat.zero_add] at h
  have h3 : (bnd 0 (cutL l)).getD i 0 = (boundsL l)[i] := by
    rw [List.getD_eq_getElem?_getD, show (bnd 0 (cutL l))[i]? = some (boundsL l)[i] from List.getElem?_eq_getElem h1]
    rfl
  rw [← h3, h]
  simp [pos]
theorem isB_mem (l : List UInt8) (n : Nat) : n ∈ boundsL l ↔ IsB l n := by
  rw [boundsL_pos, List.mem_map]
  constructor
  · rintro ⟨k, hk, rfl⟩
    exact ⟨k, by have := List.mem_range.1 hk; omega, rfl⟩
  · rintro ⟨k, hk, rfl⟩
    exact ⟨k, List.mem_range.2 (by omega), rfl⟩
theorem IsB.take_P {l : List UInt8} {n : Nat} (h : IsB l n) (hp : PlainP l) : PlainP (l.take n) := by
  obtain ⟨k, _, rfl⟩ := h
  have := take_pos (cutL l) k
  rw [cutL_flatten] at this
  rw [this]; exact P_take hp k
theorem IsB.drop_P {l : List UInt8} {n : Nat} (h : IsB l n) (hp : PlainP l) : PlainP (l.drop n) := by
  obtain ⟨k, _, rfl⟩ := h
  have := drop_pos (cutL l) k
  rw [cutL_flatten] at this
  rw [this]; exact P_drop hp k
/-- A text between two bounds. -/
theorem IsB.mid_P {l : List UInt8} {m n : Nat} (h : IsB l m) (h2 : IsB l n) (hp : PlainP l) (hmn : m ≤ n) : PlainP ((l.drop m).take (n - m)) := by
  obtain ⟨j, hj, rfl⟩ := h
  obtain ⟨k, hk, rfl⟩ := h2
  have hjk : j ≤ k := by
    refine Classical.byContradiction fun hc => ?_
    have := pos_lt (cut_full l) (show k < j by omega) hj
    omega
  have h1 := take_pos (cutL l) k
  rw [cutL_flatten] at h1
  have h3 : (l.drop (pos (cutL l) j)).take (pos (cutL l) k - pos (cutL l) j) = (l.take (pos (cutL l) k)).drop (pos (cutL l) j) := by
    rw [List.drop_take]
  rw [h3, h1]
  have h4 : pos (cutL l) j = pos ((cutL l).take k) j := by unfold pos; rw [List.take_take, Nat.min_eq_left hjk]
  rw [h4, drop_pos]
  exact flat_P _ fun c hc => cut_P l hp c (List.mem_of_mem_take (List.mem_of_mem_drop hc))
/-- The line of a text, and the cursor's place in it. -/
def mS (l : List UInt8) : List UInt8 := (plainL l).take (backL (plainL l) 600)
def mA (l : List UInt8) (n : Int) : Nat := backL (mS l) n
theorem mS_P (l : List UInt8) : PlainP (mS l) := (isB_back _ _).take_P (plain_P l)
theorem mS_len (l : List UInt8) : (mS l).length ≤ 600 := by
  have := backL_bound (plainL l) 600 (by omega)
  unfold mS
  rw [List.length_take]
  omega
theorem mA_le (l : List UInt8) (n : Int) : mA l n ≤ (mS l).length := backL_le _ _
/-- What it is to be a right line. -/
def Rt (l : List UInt8) (n : Nat) : Prop := PlainP l ∧ l.length ≤ 600 ∧ IsB l n
theorem make_rt (l : List UInt8) (n : Int) : Rt (mS l) (mA l n) := ⟨mS_P l, mS_len l, isB_back _ _⟩
theorem mS_of {l : List UInt8} (h : PlainP l) (h2 : l.length ≤ 600) : mS l = l := by
  unfold mS
  rw [h.plain, backL_all l 600 (by omega), List.take_length]
theorem mS_mS (l : List UInt8) : mS (mS l) = mS l := mS_of (mS_P l) (mS_len l)
theorem Rt.make {l : List UInt8} {n : Nat} (h : Rt l n) : mS l = l ∧ mA l (n : Int) = n := by
  have h1 := mS_of h.1 h.2.1
  exact ⟨h1, by unfold mA; rw [h1]; exact h.2.2.back⟩
/-- More in a line. -/
def insS (l : List UInt8) (a : Nat) (p : List UInt8) : List UInt8 := l.take a ++ p ++ l.drop a
def insA (l : List UInt8) (a : Nat) (p : List UInt8) : Nat := onL (insS l a p) ((a + p.length : Nat) : Int)
theorem insS_length (l : List UInt8) (a : Nat) (p : List UInt8) (h : a ≤ l.length) : (insS l a p).length = l.length + p.length := by
  unfold insS
  simp only [List.length_append, List.length_take, List.length_drop]
  omega
theorem ins_rt {l : List UInt8} {a : Nat} {p : List UInt8} (h : Rt l a) (hp : PlainP p) (hl : l.length + p.length ≤ 600) : Rt (insS l a p) (insA l a p) :=
  ⟨((h.2.2.take_P h.1).append hp).append (h.2.2.drop_P h.1), by rw [insS_length _ _ _ h.2.2.le]; exact hl, isB_on _ _⟩
/-- Less in a line. -/
def cutS (l : List UInt8) (f t : Nat) : List UInt8 := l.take f ++ l.drop t
def cutAt (a f t : Nat) : Nat := if f < a then max f (a - (t - f)) else a
def cutA (l : List UInt8) (a f t : Nat) : Nat := backL (cutS l f t) (cutAt a f t : Int)
def goneS (l : List UInt8) (f t : Nat) : List UInt8 := (l.drop f).take (t - f)
theorem cutS_length (l : List UInt8) (f t : Nat) (h : f ≤ t) (ht : t ≤ l.length) : (cutS l f t).length + (t - f) = l.length := by
  unfold cutS
  simp only [List.length_append, List.length_take, List.length_drop]
  omega
theorem cut_rt {l : List UInt8} {a f t : Nat} (h : Rt l a) (hf : IsB l f) (ht : IsB l t) (hft : f < t) : Rt (cutS l f t) (cutA l a f t) :=
  ⟨(hf.take_P h.1).append (ht.drop_P h.1), by have := cutS_length l f t (by omega) ht.le; have := h.2.1; omega, isB_back _ _⟩
/-- What a cut leaves, and takes. -/
def cutR (m : List UInt8) (a : Nat) (f t : Nat) : List UInt8 × Nat × List UInt8 := if f < t then (cutS m f t, cutA m a f t, goneS m f t) else (m, a, [])
/-- Steps. -/
def prvL (l : List UInt8) (a : Nat) : Nat := backL l ((a : Int) - 1)
def nxtL (l : List UInt8) (a : Nat) : Nat := onL l ((a : Int) + 1)
theorem prvL_pos (l : List UInt8) {k : Nat} (hk : k ≤ (cutL l).length) : prvL l (pos (cutL l) k) = pos (cutL l) (k - 1) := by
  unfold prvL backL
  rw [bk_prev (cut_full l) hk]
theorem nxtL_pos (l : List UInt8) {k : Nat} (hk : k ≤ (cutL l).length) : nxtL l (pos (cutL l) k) = pos (cutL l) (min (k + 1) (cutL l).length) := by
  unfold nxtL onL
  rw [ok_next (cut_full l) hk]
theorem prvL_nat (l : List UInt8) (a : Nat) : prvL l a = backL l ((a : Int) - 1) := rfl
/-- Is a cluster a word's? -/
def wordR (r : Int) : Bool := decide ((97 ≤ r ∧ r ≤ 122) ∨ (65 ≤ r ∧ r ≤ 90) ∨ (48 ≤ r ∧ r ≤ 57) ∨ r = 95 ∨ 128 ≤ r)
def wordL (c : List UInt8) : Bool := wordR ((nextL c).1 : Int)
/-- How many clusters there are up to the end of the first word. -/
def skipN (w : Bool) : List (List UInt8) → Nat
  | [] => 0
  | c :: cs => if wordL c = w then skipN w cs + 1 else 0
def thrK (cs : List (List UInt8)) : Nat := skipN false cs + skipN true (cs.drop (skipN false cs))
def thrL (cs : List (List UInt8)) : Nat := pos cs (thrK cs)
theorem skipN_le (w : Bool) : ∀ cs : List (List UInt8), skipN w cs ≤ cs.length
  | [] => Nat.le_refl _
  | c :: cs => by
    have := skipN_le w cs
    unfold skipN
    split <;> simp <;> omega
theorem thrK_le (cs : List (List UInt8)) : thrK cs ≤ cs.length := by
  have h1 := skipN_le false cs
  have h2 := skipN_le true (cs.drop (skipN false cs))
  rw [List.length_drop] at h2
  unfold thrK; omega
theorem thrK_pos (cs : List (List UInt8)) (h : cs ≠ []) : 0 < thrK cs := by
  obtain ⟨c, t, rfl⟩ : ∃ c t, cs = c :: t := by cases cs <;> simp_all
  unfold thrK
  cases hw : wordL c
  · have : 0 < skipN false (c :: t) := by unfold skipN; rw [if_pos hw]; omega
    omega
  · have h0 : skipN false (c :: t) = 0 := by unfold skipN; rw [if_neg (by simp [hw])]
    rw [h0, List.drop_zero]
    unfold skipN
    rw [if_pos hw]; omega
/-- Words' ends. -/
def wlL (l : List UInt8) (a : Nat) : Nat := a - thrL (cutL (l.take a)).reverse
def wrL (l : List UInt8) (a : Nat) : Nat := a + thrL (cutL (l.drop a))
theorem wrL_pos {l : List UInt8} {k : Nat} : wrL l (pos (cutL l) k) = pos (cutL l) (k + thrK ((cutL l).drop k)) := by
  have h1 := drop_pos (cutL l) k
  rw [cutL_flatten] at h1
  unfold wrL thrL
  rw [h1, cut_dropK]
  unfold pos
  rw [List.take_add, List.flatten_append, List.length_append]
theorem wlL_pos {l : List UInt8} (h : PlainP l) {k : Nat} (hk : k ≤ (cutL l).length) : wlL l (pos (cutL l) k) = pos (cutL l) (k - thrK ((cutL l).take k).reverse) := by
  have h1 := take_pos (cutL l) k
  rw [cutL_flatten] at h1
  unfold wlL thrL
  rw [h1, cut_takeK h]
  generalize hm : thrK ((cutL l).take k).reverse = m
  have hm2 : m ≤ k := by
    have := thrK_le ((cutL l).take k).reverse
    rw [List.length_reverse, List.length_take] at this
    omega
  have e : pos (cutL l) k = pos (cutL l) (k - m) + pos ((cutL l).take k).reverse m := by
    have e1 : ((cutL l).take k) = (cutL l).take (k - m) ++ ((cutL l).take k).drop (k - m) := by
      conv => lhs; rw [← List.take_append_drop (k - m) ((cutL l).take k), List.take_take, Nat.min_eq_left (by omega)]
    have e2 : pos ((cutL l).take k).reverse m = (((cutL l).take k).drop (k - m)).flatten.length := by
      unfold pos
      rw [List.take_reverse, List.length_take, Nat.min_eq_left hk]
      generalize ((cutL l).take k).drop (k - m) = xs
      rw [List.length_flatten, List.length_flatten, List.map_reverse, List.sum_reverse]
    rw [e2]
    unfold pos
    conv => lhs; rw [e1, List.flatten_append, List.length_append]
  omega
/-- Two clusters in each other's places: the bounds of the two. -/
def swS (l : List UInt8) (f m t : Nat) : List UInt8 := l.take f ++ goneS l m t ++ goneS l f m ++ l.drop t
theorem goneS_length (l : List UInt8) (f t : Nat) (h : t ≤ l.length) : (goneS l f t).length = t - f := by
  unfold goneS; rw [List.length_take, List.length_drop]; omega
theorem swS_length (l : List UInt8) (f m t : Nat) (h : f ≤ m) (h2 : m ≤ t) (h3 : t ≤ l.length) : (swS l f m t).length = l.length := by
  unfold swS
  simp only [List.length_append, goneS_length l m t h3, goneS_length l f m (by omega), List.length_take, List.length_drop]
  omega
theorem sw_rt {l : List UInt8} {f m t : Nat} (hp : PlainP l) (hl : l.length ≤ 600) (hf : IsB l f) (hm : IsB l m) (ht : IsB l t) (h1 : f ≤ m) (h2 : m ≤ t) : Rt (swS l f m t) (onL (swS l f m t) (t : Int)) :=
  ⟨(((hf.take_P hp).append (hm.mid_P ht hp h2)).append (hf.mid_P hm hp h1)).append (ht.drop_P hp), by rw [swS_length l f m t h1 h2 ht.le]; exact hl, isB_on _ _⟩
/-- Texts put together: how many clusters. -/
theorem join_or {a y : List UInt8} (ha : PlainP a) : cutL (a ++ y) = cutL a ++ cutL y ∨ (cutL (a ++ y)).length + 1 = (cutL a).length + (cutL y).length := by
  by_cases h0 : a = []
  · subst h0; exact .inl (by simp [cutL_nil])
  · by_cases hy : Wid y
    · exact .inl (cut_join ha hy)
    · have h1 : y ≠ [] := fun h => hy (.inl h)
      have h2 : ofL ((Lib.decodeL y).1 : Int) = 0 := Classical.byContradiction fun h => hy (.inr h)
      obtain ⟨init, lst, c, rest, e1, e2, e3⟩ := cut_join_zero a y (by rw [ha.clean]; exact h0) h1 h2
      rw [ha.clean] at e1 e3
      refine .inr ?_
      rw [e1, e2, e3]
      simp only [List.length_append, List.length_cons, List.length_nil]
      omega
theorem join_le {a y : List UInt8} (ha : PlainP a) : (cutL (a ++ y)).length ≤ (cutL a).length + (cutL y).length := by
  rcases join_or (y := y) ha with h | h
  · rw [h, List.length_append]; exact Nat.le_refl _
  · omega
theorem cut_two {l : List UInt8} (h : PlainP l) {a : Nat} (ha : IsB l a) : cutL l = cutL (l.take a) ++ cutL (l.drop a) := by
  obtain ⟨k, hk, rfl⟩ := ha
  have h1 := take_pos (cutL l) k
  have h2 := drop_pos (cutL l) k
  rw [cutL_flatten] at h1 h2
  rw [h1, h2, cut_dropK, cut_takeK h, List.take_append_drop]
theorem isB_of_split {l : List UInt8} {a y : List UInt8} (_ : l = a ++ y) (h : cutL l = cutL a ++ cutL y) : IsB l a.length := by
  refine ⟨(cutL a).length, by rw [h, List.length_append]; omega, ?_⟩
  unfold pos
  rw [h, List.take_left, cutL_flatten]
/-- What was put in has bounds at its ends, if it has as many clusters as before. -/
theorem ins_isB {l : List UInt8} {a : Nat} {p : List UInt8} (h : Rt l a) (hp : PlainP p) (hc : (cutL (insS l a p)).length = (cutL l).length + (cutL p).length) : IsB (insS l a p) a := by
  have hl := h.2.2.le
  have e1 : insS l a p = l.take a ++ (p ++ l.drop a) := by unfold insS; rw [List.append_assoc]
  have e2 := congrArg List.length (cut_two h.1 h.2.2)
  rw [List.length_append] at e2
  have h3 := join_le (y := l.drop a) hp
  rcases join_or (y := p ++ l.drop a) (h.2.2.take_P h.1) with h4 | h4
  · have h5 := isB_of_split e1 (by rw [e1]; exact h4)
    rwa [List.length_take, Nat.min_eq_left hl] at h5
  · rw [← e1] at h4
    omega
theorem cut_ins {l : List UInt8} {a : Nat} {p : List UInt8} (hl : a ≤ l.length) : cutS (insS l a p) a (a + p.length) = l ∧ goneS (insS l a p) a (a + p.length) = p := by
  have e1 : insS l a p = l.take a ++ (p ++ l.drop a) := by unfold insS; rw [List.append_assoc]
  have e0 : (l.take a).length = a := by rw [List.length_take, Nat.min_eq_left hl]
  have t1 : (insS l a p).take a = l.take a := by rw [e1, List.take_append_of_le_length (by omega), List.take_of_length_le (by omega)]
  have d1 : (insS l a p).drop a = p ++ l.drop a := by rw [e1, List.drop_append_of_le_length (by omega), List.drop_of_length_le (by omega), List.nil_append]
  constructor
  · unfold cutS
    rw [t1, ← List.drop_drop, d1, List.drop_left, List.take_append_drop]
  · unfold goneS
    rw [d1, Nat.add_sub_cancel_left, List.take_left]
theorem ins_cut {l : List UInt8} {a t : Nat} (hat : a ≤ t) (ht : t ≤ l.length) : insS (cutS l a t) a (goneS l a t) = l := by
  have e0 : (l.take a).length = a := by rw [List.length_take]; omega
  unfold insS cutS
  rw [List.take_append_of_le_length (by omega), List.drop_append_of_le_length (by omega), List.take_of_length_le (by omega), List.drop_of_length_le (by omega), List.nil_append]
  unfold goneS
  have : (l.drop a).take (t - a) ++ l.drop t = l.drop a := by
    rw [show l.drop t = (l.drop a).drop (t - a) by rw [List.drop_drop]; congr 1; omega, List.take_append_drop]
  rw [List.append_assoc, this, List.take_append_drop]
end
section
open Go
theorem gone_pos (l : List UInt8) (j : Nat) (hj : j < (cutL l).length) : goneS l (pos (cutL l) j) (pos (cutL l) (j + 1)) = (cutL l).getD j [] := by
  have h1 := drop_pos (cutL l) j
  rw [cutL_flatten] at h1
  have h2 := pos_succ (cutL l) j hj
  have e : (cutL l).drop j = (cutL l).getD j [] :: (cutL l).drop (j + 1) := by
    rw [List.drop_eq_getElem_cons hj]; simp [List.getD, hj]
  unfold goneS
  rw [h1, e, List.flatten_cons, h2, Nat.add_sub_cancel_left, List.take_left]
/-- The place between the two. -/
def swMid (m : List UInt8) (a : Nat) : Nat := if a = m.length then prvL m a else a
/-- What Swap answers: the text, the place, whether. -/
def swapR (m : List UInt8) (a : Nat) : List UInt8 × Nat × Bool :=
  if swMid m a = 0 then (m, a, false)
  else (swS m (prvL m (swMid m a)) (swMid m a) (nxtL m (swMid m a)), onL (swS m (prvL m (swMid m a)) (swMid m a) (nxtL m (swMid m a))) (nxtL m (swMid m a) : Int), true)
theorem prvL_le (m : List UInt8) (a : Nat) (_ : a ≤ m.length) : prvL m a ≤ m.length := backL_le _ _
theorem isB_mid {m : List UInt8} {a : Nat} (h : IsB m a) : IsB m (swMid m a) := by
  unfold swMid
  split
  · exact isB_back _ _
  · exact h
theorem prv_lt {m : List UInt8} {a : Nat} (h : IsB m a) : prvL m a ≤ a := by
  obtain ⟨k, hk, rfl⟩ := h
  rw [prvL_pos m hk]
  exact pos_mono _ (by omega)
theorem nxt_ge {m : List UInt8} {a : Nat} (h : IsB m a) : a ≤ nxtL m a := by
  obtain ⟨k, hk, rfl⟩ := h
  rw [nxtL_pos m hk]
  exact pos_mono _ (by omega)
theorem swap_rt {m : List UInt8} {a : Nat} (h : Rt m a) : Rt (swapR m a).1 (swapR m a).2.1 ∧ (swapR m a).1.length = m.length := by
  have hm := isB_mid h.2.2
  unfold swapR
  split
  · exact ⟨h, rfl⟩
  · exact ⟨sw_rt h.1 h.2.1 (isB_back _ _) hm (isB_on _ _) (prv_lt hm) (nxt_ge hm), swS_length _ _ _ _ (prv_lt hm) (nxt_ge hm) (onL_le _ _)⟩
/-- The two by their numbers: k of the clusters are ahead of the cursor. -/
def swIdx (cs : List (List UInt8)) (k : Nat) : Nat := if k = cs.length then k - 1 else k
/-- The clusters, two of them in each other's places. -/
def swL (cs : List (List UInt8)) (j : Nat) : List (List UInt8) := (cs.set (j - 1) (cs.getD j [])).set j (cs.getD (j - 1) [])
theorem swMid_pos (m : List UInt8) {k : Nat} (hk : k ≤ (cutL m).length) : swMid m (pos (cutL m) k) = pos (cutL m) (swIdx (cutL m) k) := by
  unfold swMid swIdx
  have hl : m.length = pos (cutL m) (cutL m).length := by rw [pos_all _ _ (Nat.le_refl _), cutL_flatten]
  by_cases h : k = (cutL m).length
  · rw [if_pos h, if_pos (by rw [hl, h]), prvL_pos m hk]
  · rw [if_neg h, if_neg]
    intro e
    rw [hl] at e
    exact h (pos_inj (cut_full m) hk (Nat.le_refl _) e)
theorem pos_eq_zero {cs : List (List UInt8)} (hf : Full cs) {k : Nat} (hk : k ≤ cs.length) : pos cs k = 0 ↔ k = 0 := by
  constructor
  · intro h
    exact pos_inj hf hk (Nat.zero_le _) (by rw [h, pos_zero])
  · rintro rfl; rfl
theorem swIdx_zero (cs : List (List UInt8)) (k : Nat) (hk : k ≤ cs.length) : swIdx cs k = 0 ↔ k = 0 ∨ cs.length < 2 := by
  unfold swIdx
  split <;> omega
theorem swL_flatten (cs : List (List UInt8)) (j : Nat) (h0 : 0 < j) (hj : j < cs.length) : swL cs j = cs.take (j - 1) ++ [cs.getD j [], cs.getD (j - 1) []] ++ cs.drop (j + 1) := by
  obtain ⟨i, rfl⟩ : ∃ i, j = i + 1 := ⟨j - 1, by omega⟩
  simp only [Nat.add_sub_cancel] at *
  refine List.ext_getElem ?_ fun n h1 h2 => ?_
  · simp [swL, List.length_take]; omega
  · simp only [swL, Nat.add_sub_cancel, List.length_set] at h1
    simp only [swL, Nat.add_sub_cancel, List.getElem_set, List.getElem_append, List.length_append, List.length_take, List.length_cons, List.length_nil, Nat.min_eq_left (show i ≤ cs.length by omega)]
    by_cases e1 : i + 1 = n
    · subst e1
      simp
      intro h
      omega
    · by_cases e2 : i = n
      · subst e2
        simp
      · rw [if_neg e1, if_neg e2]
        by_cases e3 : n < i
        · simp [show n < i + (0 + 1 + 1) by omega, e3]
        · have : ¬ n < i + (0 + 1 + 1) := by omega
          simp only [this, dite_false]
          rw [List.getElem_drop]
          congr 1
          omega
/-- What Swap makes is what the clusters make. -/
theorem swapR_idx {m : List UInt8} (j : Nat) (h0 : 0 < j) (hj : j < (cutL m).length) :
    swS m (prvL m (pos (cutL m) j)) (pos (cutL m) j) (nxtL m (pos (cutL m) j)) = (swL (cutL m) j).flatten ∧ nxtL m (pos (cutL m) j) = (((swL (cutL m) j).take (j + 1)).flatten).length := by
  have hp := prvL_pos m (show j ≤ (cutL m).length by omega)
  have hn := nxtL_pos m (show j ≤ (cutL m).length by omega)
  rw [Nat.min_eq_left (by omega)] at hn
  have g1 := gone_pos m j hj
  have g2 := gone_pos m (j - 1) (by omega)
  rw [show j - 1 + 1 = j by omega] at g2
  have t1 := take_pos (cutL m) (j - 1)
  have d1 := drop_pos (cutL m) (j + 1)
  rw [cutL_flatten] at t1 d1
  rw [hp, hn, swL_flatten _ j h0 hj]
  constructor
  · unfold swS
    rw [g1, g2, t1, d1]
    simp
  · have e1 : ((cutL m).take (j - 1) ++ [(cutL m).getD j [], (cutL m).getD (j - 1) []] ++ (cutL m).drop (j + 1)).take (j + 1) = (cutL m).take (j - 1) ++ [(cutL m).getD j [], (cutL m).getD (j - 1) []] := by
      rw [List.take_append_of_le_length (by simp [List.length_take]; omega), List.take_of_length_le (by simp [List.length_take]; omega)]
    rw [e1]
    have p1 := pos_succ (cutL m) j hj
    have p2 := pos_succ (cutL m) (j - 1) (by omega)
    rw [show j - 1 + 1 = j by omega] at p2
    rw [p1, p2]
    simp [pos]
    omega
end
end Go.Proofs.YtoaponaljkhlfaaDoor
