/-
  Lines over lists alone: what a line may hold, bounds, and places between clusters. No program is named here.
-/
import Derived.Test.YtbkejjpkijjfaaaDoorCutMath
namespace Go.Proofs.YtbkejjpkijjfaaaDoor
open Go

/-- What a line holds for a sign. -/
def plR (r : Nat) : List Nat := if r = 9 ∨ r = 10 ∨ r = 13 then [32] else if ctlL (r : Int) = true then [] else [r]
/-- A text as a line may hold it. -/
def plainL (l : List UInt8) : List UInt8 := encL ((runes l).flatMap plR)
def Fine (r : Nat) : Prop := Valid r ∧ ctlL (r : Int) = false
theorem plR_fine (r : Nat) (h : Valid r) : ∀ x ∈ plR r, Fine x := by
  intro x hx
  unfold plR at hx
  split at hx
  · simp at hx; subst hx; exact ⟨.inl (by omega), by decide⟩
  · split at hx
    · simp at hx
    · rename_i h2
      simp at hx; subst hx
      exact ⟨h, by simpa using h2⟩
theorem plR_of (r : Nat) (h : Fine r) : plR r = [r] := by
  have h2 := h.2
  unfold plR
  rw [if_neg, if_neg (by simp [h2])]
  rintro (rfl | rfl | rfl) <;> exact absurd h2 (by decide)
/-- Texts that a line may hold. -/
def PlainP (l : List UInt8) : Prop := ∃ rs, (∀ r ∈ rs, Fine r) ∧ l = encL rs
theorem PlainP.nil : PlainP [] := ⟨[], by simp, rfl⟩
theorem PlainP.append {a b : List UInt8} (ha : PlainP a) (hb : PlainP b) : PlainP (a ++ b) := by
  obtain ⟨r, h1, rfl⟩ := ha
  obtain ⟨s, h2, rfl⟩ := hb
  exact ⟨r ++ s, fun x hx => (List.mem_append.1 hx).elim (h1 x) (h2 x), (encL_append r s).symm⟩
theorem plain_P (l : List UInt8) : PlainP (plainL l) :=
  ⟨_, fun x hx => by
    obtain ⟨r, hr, hx⟩ := List.mem_flatMap.1 hx
    exact plR_fine r (runes_valid l r hr) x hx, rfl⟩
theorem flatMap_fine (rs : List Nat) (h : ∀ r ∈ rs, Fine r) : rs.flatMap plR = rs := by
  induction rs with
  | nil => rfl
  | cons r t ih => rw [List.flatMap_cons, plR_of r (h r (by simp)), ih (fun x hx => h x (by simp [hx]))]; rfl
theorem PlainP.plain {l : List UInt8} (h : PlainP l) : plainL l = l := by
  obtain ⟨rs, h1, rfl⟩ := h
  unfold plainL
  rw [runes_enc rs (fun r hr => (h1 r hr).1), flatMap_fine rs h1]
theorem plain_iff (l : List UInt8) : plainL l = l ↔ PlainP l := ⟨fun h => h ▸ plain_P l, PlainP.plain⟩
theorem PlainP.clean {l : List UInt8} (h : PlainP l) : cleanL l = l := by
  obtain ⟨rs, h1, rfl⟩ := h
  rw [cleanL_enc, runes_enc rs (fun r hr => (h1 r hr).1)]
theorem plain_length (l : List UInt8) : (plainL l).length ≤ 4 * l.length := by
  have h1 := encL_length ((runes l).flatMap plR)
  have h2 : ((runes l).flatMap plR).length ≤ (runes l).length := by
    generalize runes l = rs
    induction rs with
    | nil => simp
    | cons r t ih =>
      have : (plR r).length ≤ 1 := by
        unfold plR
        split
        · simp
        · split <;> simp
      rw [List.flatMap_cons, List.length_append, List.length_cons]
      omega
  have h3 := runes_length l
  unfold plainL
  omega

theorem zlen_enc : ∀ rs : List Nat, (∀ r ∈ rs, Valid r) → zlen (encL rs) = (encL (rs.takeWhile fun r => decide (ofL (r : Int) = 0))).length
  | [], _ => rfl
  | r :: rs, h => by
    have hd := dec_enc r (h r (by simp)) (encL rs)
    rw [encL_cons]
    by_cases hz : ofL (r : Int) = 0
    · rw [zlen_zero _ (enc_ne _ _) (by rw [hd]; exact hz), hd, List.takeWhile_cons_of_pos (by simpa using hz), encL_cons, List.length_append]
      simp only [List.drop_left]
      rw [zlen_enc rs (fun x hx => h x (by simp [hx]))]
    · rw [zlen_wide _ (by rw [hd]; exact hz), List.takeWhile_cons_of_neg (by simpa using hz)]
      rfl
theorem PlainP.first {l : List UInt8} (h : PlainP l) (hl : l ≠ []) : PlainP (l.take (clen l)) ∧ PlainP (l.drop (clen l)) := by
  obtain ⟨rs, h1, rfl⟩ := h
  obtain ⟨r, t, rfl⟩ : ∃ r t, rs = r :: t := by
    cases rs with
    | nil => exact absurd rfl hl
    | cons r t => exact ⟨r, t, rfl⟩
  have hd := dec_enc r (h1 r (by simp)).1 (encL t)
  have hz := zlen_enc t (fun x hx => (h1 x (by simp [hx])).1)
  have hc : clen (encL (r :: t)) = (encL (r :: t.takeWhile fun r => decide (ofL (r : Int) = 0))).length := by
    unfold clen
    rw [encL_cons, hd, encL_cons, List.length_append]
    simp only [List.drop_left]
    rw [hz]
  have he : encL (r :: t) = encL (r :: t.takeWhile fun r => decide (ofL (r : Int) = 0)) ++ encL (t.dropWhile fun r => decide (ofL (r : Int) = 0)) := by
    rw [← encL_append, List.cons_append, List.takeWhile_append_dropWhile]
  refine ⟨⟨r :: t.takeWhile fun r => decide (ofL (r : Int) = 0), fun x hx => ?_, ?_⟩, ⟨t.dropWhile fun r => decide (ofL (r : Int) = 0), fun x hx => ?_, ?_⟩⟩
  · rcases List.mem_cons.1 hx with rfl | hx
    · exact h1 _ (by simp)
    · exact h1 x (by simp [(List.takeWhile_sublist _).subset hx])
  · rw [hc]
    conv => lhs; rw [he]
    rw [List.take_left]
  · exact h1 x (by simp [(List.dropWhile_sublist _).subset hx])
  · rw [hc]
    conv => lhs; rw [he]
    rw [List.drop_left]
theorem cut_P (l : List UInt8) : PlainP l → ∀ c ∈ cutL l, PlainP c := by
  induction l using cut_induct with
  | h0 => intro _ c hc; simp [cutL_nil] at hc
  | h1 l hl ih =>
    intro h c hc
    obtain ⟨h1, h2⟩ := h.first hl
    rw [cutL_step l hl, List.mem_cons] at hc
    rcases hc with rfl | hc
    · exact h1
    · exact ih h2 c hc
theorem flat_P (cs : List (List UInt8)) (h : ∀ c ∈ cs, PlainP c) : PlainP cs.flatten := by
  induction cs with
  | nil => exact PlainP.nil
  | cons c t ih => rw [List.flatten_cons]; exact (h c (by simp)).append (ih fun x hx => h x (by simp [hx]))

/-- Behind a cluster a sign of some width begins. -/
def Wid (y : List UInt8) : Prop := y = [] ∨ ofL ((Lib.decodeL y).1 : Int) ≠ 0
theorem zlen_stop_aux : ∀ (n : Nat) (l : List UInt8), l.length ≤ n → Wid (l.drop (zlen l))
  | 0, l, h => by
    obtain rfl : l = [] := List.eq_nil_of_length_eq_zero (by omega)
    exact .inl (by simp)
  | n + 1, l, h => by
    by_cases hl : l = []
    · subst hl; exact .inl (by simp)
    · by_cases hz : ofL ((Lib.decodeL l).1 : Int) = 0
      · have hd := drop_lt l hl
        have ih := zlen_stop_aux n (l.drop (Lib.decodeL l).2) (by omega)
        rw [zlen_zero l hl hz, ← List.drop_drop]
        exact ih
      · rw [zlen_wide l hz]; exact .inr (by simpa using hz)
theorem clen_stop (l : List UInt8) : Wid (l.drop (clen l)) := by
  unfold clen
  rw [← List.drop_drop]
  exact zlen_stop_aux _ _ (Nat.le_refl _)

/-- Where cluster number k begins. -/
def pos (cs : List (List UInt8)) (k : Nat) : Nat := (cs.take k).flatten.length
theorem pos_zero (cs : List (List UInt8)) : pos cs 0 = 0 := rfl
theorem pos_all (cs : List (List UInt8)) (k : Nat) (h : cs.length ≤ k) : pos cs k = cs.flatten.length := by
  unfold pos; rw [List.take_of_length_le h]
theorem pos_cons (c : List UInt8) (cs : List (List UInt8)) (k : Nat) : pos (c :: cs) (k + 1) = c.length + pos cs k := by
  simp [pos]
theorem pos_split (cs : List (List UInt8)) (k : Nat) : cs.flatten = (cs.take k).flatten ++ (cs.drop k).flatten := by
  rw [← List.flatten_append, List.take_append_drop]
theorem take_pos (cs : List (List UInt8)) (k : Nat) : cs.flatten.take (pos cs k) = (cs.take k).flatten := by
  conv => lhs; rw [pos_split cs k]
  exact List.take_left
theorem drop_pos (cs : List (List UInt8)) (k : Nat) : cs.flatten.drop (pos cs k) = (cs.drop k).flatten := by
  conv => lhs; rw [pos_split cs k]
  exact List.drop_left
theorem pos_succ (cs : List (List UInt8)) (k : Nat) (h : k < cs.length) : pos cs (k + 1) = pos cs k + (cs.getD k []).length := by
  unfold pos
  rw [List.take_succ_eq_append_getElem h, List.flatten_append, List.length_append]
  simp [List.getD, h]
theorem pos_le_succ (cs : List (List UInt8)) (k : Nat) : pos cs k ≤ pos cs (k + 1) := by
  by_cases h : k < cs.length
  · rw [pos_succ cs k h]; omega
  · rw [pos_all cs k (by omega), pos_all cs (k + 1) (by omega)]; exact Nat.le_refl _
theorem pos_mono (cs : List (List UInt8)) {j k : Nat} (h : j ≤ k) : pos cs j ≤ pos cs k := by
  induction h with
  | refl => exact Nat.le_refl _
  | step _ ih => exact Nat.le_trans ih (pos_le_succ cs _)
theorem pos_le (cs : List (List UInt8)) (k : Nat) : pos cs k ≤ cs.flatten.length := by
  rw [← pos_all cs (max k cs.length) (by omega)]
  exact pos_mono cs (by omega)
/-- No cluster is empty. -/
def Full (cs : List (List UInt8)) : Prop := ∀ c ∈ cs, c ≠ []
theorem cut_full (l : List UInt8) : Full (cutL l) := fun c hc => (cut_mem l c hc).1
theorem pos_lt_succ {cs : List (List UInt8)} (hf : Full cs) {k : Nat} (h : k < cs.length) : pos cs k < pos cs (k + 1) := by
  rw [pos_succ cs k h]
  have : (cs.getD k []) ≠ [] := by
    have e : cs.getD k [] = cs[k] := by simp [List.getD, h]
    rw [e]
    exact hf _ (List.getElem_mem h)
  have := List.length_pos_iff.2 this
  omega
theorem pos_lt {cs : List (List UInt8)} (hf : Full cs) {j k : Nat} (h : j < k) (hk : k ≤ cs.length) : pos cs j < pos cs k :=
  Nat.lt_of_lt_of_le (pos_lt_succ hf (by omega)) (pos_mono cs h)
theorem pos_inj {cs : List (List UInt8)} (hf : Full cs) {j k : Nat} (hj : j ≤ cs.length) (hk : k ≤ cs.length) (h : pos cs j = pos cs k) : j = k := by
  rcases Nat.lt_trichotomy j k with h1 | h1 | h1
  · have := pos_lt hf h1 hk; omega
  · exact h1
  · have := pos_lt hf h1 hj; omega
theorem pos_lt_iff {cs : List (List UInt8)} (hf : Full cs) {j k : Nat} (hk : k ≤ cs.length) : pos cs j < pos cs k ↔ j < k :=
  ⟨fun h => Classical.byContradiction fun h1 => by have := pos_mono cs (Nat.le_of_not_lt h1); omega, fun h => pos_lt hf h hk⟩

/-- The number of the greatest bound that is not above n (0, if none is). -/
def bk : List (List UInt8) → Int → Nat
  | [], _ => 0
  | c :: cs, n => if (c.length : Int) ≤ n then bk cs (n - c.length) + 1 else 0
/-- The number of the least bound that is not below n (that of the end, if none is). -/
def ok : List (List UInt8) → Int → Nat
  | [], _ => 0
  | c :: cs, n => if n ≤ 0 then 0 else ok cs (n - c.length) + 1
theorem bk_le : ∀ (cs : List (List UInt8)) (n : Int), bk cs n ≤ cs.length
  | [], _ => Nat.le_refl _
  | c :: cs, n => by
    unfold bk
    split
    · have := bk_le cs (n - c.length); simp; omega
    · omega
theorem ok_le : ∀ (cs : List (List UInt8)) (n : Int), ok cs n ≤ cs.length
  | [], _ => Nat.le_refl _
  | c :: cs, n => by
    unfold ok
    split
    · omega
    · have := ok_le cs (n - c.length); simp; omega
theorem bk_spec : ∀ (cs : List (List UInt8)) (n : Int), (bk cs n = 0 ∨ (pos cs (bk cs n) : Int) ≤ n) ∧ (bk cs n < cs.length → n < (pos cs (bk cs n + 1) : Int))
  | [], _ => ⟨.inl rfl, fun h => absurd h (by simp [bk])⟩
  | c :: cs, n => by
    obtain ⟨h1, h2⟩ := bk_spec cs (n - c.length)
    unfold bk
    split
    · rename_i h
      refine ⟨.inr ?_, fun h3 => ?_⟩
      · rw [pos_cons]
        rcases h1 with h1 | h1
        · rw [h1, pos_zero]; omega
        · omega
      · rw [pos_cons]
        have := h2 (by simpa using h3)
        omega
    · rename_i h
      refine ⟨.inl rfl, fun _ => ?_⟩
      rw [pos_cons, pos_zero]
      omega
theorem ok_spec : ∀ (cs : List (List UInt8)) (n : Int), (ok cs n = cs.length ∨ n ≤ (pos cs (ok cs n) : Int)) ∧ (0 < ok cs n → (pos cs (ok cs n - 1) : Int) < n)
  | [], _ => ⟨.inl rfl, fun h => absurd h (by simp [ok])⟩
  | c :: cs, n => by
    obtain ⟨h1, h2⟩ := ok_spec cs (n - c.length)
    unfold ok
    split
    · rename_i h
      exact ⟨.inr (by rw [pos_zero]; omega), fun h3 => absurd h3 (by simp)⟩
    · rename_i h
      refine ⟨?_, fun _ => ?_⟩
      · rcases h1 with h1 | h1
        · exact .inl (by simp [h1])
        · exact .inr (by rw [pos_cons]; omega)
      · by_cases h0 : 0 < ok cs (n - c.length)
        · have := h2 h0
          obtain ⟨m, hm⟩ : ∃ m, ok cs (n - c.length) = m + 1 := ⟨ok cs (n - c.length) - 1, by omega⟩
          rw [hm] at this ⊢
          simp only [Nat.add_sub_cancel] at this ⊢
          rw [pos_cons]; omega
        · have : ok cs (n - c.length) = 0 := by omega
          rw [this]
          simp only [Nat.zero_add, Nat.sub_self, pos_zero]
          omega
theorem bk_uniq {cs : List (List UInt8)} {n : Int} {j : Nat} (h1 : j ≤ cs.length) (h2 : j = 0 ∨ (pos cs j : Int) ≤ n) (h3 : j < cs.length → n < (pos cs (j + 1) : Int)) : bk cs n = j := by
  obtain ⟨a, b⟩ := bk_spec cs n
  have c := bk_le cs n
  rcases Nat.lt_trichotomy (bk cs n) j with h | h | h
  · have := b (by omega)
    have m := pos_mono cs (show bk cs n + 1 ≤ j by omega)
    rcases h2 with h2 | h2 <;> omega
  · exact h
  · have := h3 (by omega)
    have m := pos_mono cs (show j + 1 ≤ bk cs n by omega)
    rcases a with a | a <;> omega
theorem ok_uniq {cs : List (List UInt8)} {n : Int} {j : Nat} (h1 : j ≤ cs.length) (h2 : j = cs.length ∨ n ≤ (pos cs j : Int)) (h3 : 0 < j → (pos cs (j - 1) : Int) < n) : ok cs n = j := by
  obtain ⟨a, b⟩ := ok_spec cs n
  have c := ok_le cs n
  rcases Nat.lt_trichotomy (ok cs n) j with h | h | h
  · have := h3 (by omega)
    have m := pos_mono cs (show ok cs n ≤ j - 1 by omega)
    rcases a with a | a <;> omega
  · exact h
  · have := b (by omega)
    have m := pos_mono cs (show j ≤ ok cs n - 1 by omega)
    rcases h2 with h2 | h2 <;> omega
theorem bk_pos {cs : List (List UInt8)} (hf : Full cs) {k : Nat} (hk : k ≤ cs.length) : bk cs (pos cs k : Int) = k :=
  bk_uniq hk (.inr (Int.le_refl _)) fun h => by have := pos_lt_succ hf h; omega
theorem ok_pos {cs : List (List UInt8)} (hf : Full cs) {k : Nat} (hk : k ≤ cs.length) : ok cs (pos cs k : Int) = k :=
  ok_uniq hk (.inr (Int.le_refl _)) fun h => by have := pos_lt hf (show k - 1 < k by omega) hk; omega
theorem bk_all (cs : List (List UInt8)) (n : Int) (h : (cs.flatten.length : Int) ≤ n) : bk cs n = cs.length :=
  bk_uniq (Nat.le_refl _) (.inr (by rw [pos_all cs _ (Nat.le_refl _)]; exact h)) fun h => absurd h (Nat.lt_irrefl _)
theorem ok_nonpos (cs : List (List UInt8)) (n : Int) (h : n ≤ 0) : ok cs n = 0 :=
  ok_uniq (Nat.zero_le _) (.inr (by rw [pos_zero]; omega)) fun h => absurd h (Nat.lt_irrefl _)
theorem bk_ge {cs : List (List UInt8)} {n : Int} {k : Nat} (hk : k ≤ cs.length) (h : (pos cs k : Int) ≤ n) : k ≤ bk cs n := by
  refine Classical.byContradiction fun hc => ?_
  have h1 := (bk_spec cs n).2 (by omega)
  have := pos_mono cs (show bk cs n + 1 ≤ k by omega)
  omega
theorem bk_lt {cs : List (List UInt8)} {n : Int} {k : Nat} (h0 : 0 < k) (h : n < (pos cs k : Int)) : bk cs n < k := by
  refine Classical.byContradiction fun hc => ?_
  have := pos_mono cs (show k ≤ bk cs n by omega)
  rcases (bk_spec cs n).1 with h1 | h1 <;> omega
theorem ok_le_of {cs : List (List UInt8)} {n : Int} {k : Nat} (h : n ≤ (pos cs k : Int)) : ok cs n ≤ k := by
  refine Classical.byContradiction fun hc => ?_
  have h1 := (ok_spec cs n).2 (by omega)
  have := pos_mono cs (show k ≤ ok cs n - 1 by omega)
  omega
theorem ok_gt {cs : List (List UInt8)} {n : Int} {k : Nat} (hk : k < cs.length) (h : (pos cs k : Int) < n) : k < ok cs n := by
  refine Classical.byContradiction fun hc => ?_
  have := pos_mono cs (show ok cs n ≤ k by omega)
  rcases (ok_spec cs n).1 with h1 | h1 <;> omega
/-- One bound ahead, one behind. -/
theorem bk_prev {cs : List (List UInt8)} (hf : Full cs) {k : Nat} (hk : k ≤ cs.length) : bk cs ((pos cs k : Int) - 1) = k - 1 := by
  refine bk_uniq (by omega) ?_ fun h => ?_
  · by_cases h : k = 0
    · exact .inl (by omega)
    · have := pos_lt hf (show k - 1 < k by omega) hk
      exact .inr (by omega)
  · by_cases h0 : k = 0
    · subst h0
      have := pos_lt_succ hf h
      simp only [Nat.zero_sub, pos_zero] at *
      omega
    · rw [show k - 1 + 1 = k by omega]; omega
theorem ok_next {cs : List (List UInt8)} (hf : Full cs) {k : Nat} (hk : k ≤ cs.length) : ok cs ((pos cs k : Int) + 1) = min (k + 1) cs.length := by
  by_cases h : k < cs.length
  · rw [Nat.min_eq_left (by omega)]
    refine ok_uniq (by omega) (.inr ?_) fun _ => ?_
    · have := pos_lt_succ hf h; omega
    · rw [Nat.add_sub_cancel]; omega
  · rw [Nat.min_eq_right (by omega)]
    refine ok_uniq (Nat.le_refl _) (.inl rfl) fun h0 => ?_
    have := pos_lt hf (show cs.length - 1 < cs.length by omega) (Nat.le_refl _)
    rw [show k = cs.length by omega]; omega

/-- Texts between bounds, cut again. -/
theorem cut_dropK : ∀ (k : Nat) (l : List UInt8), cutL ((cutL l).drop k).flatten = (cutL l).drop k
  | 0, l => by rw [List.drop_zero, cutL_flatten]
  | k + 1, l => by
    by_cases hl : l = []
    · subst hl; simp [cutL_nil]
    · rw [cutL_step l hl, List.drop_succ_cons]
      exact cut_dropK k _
theorem drop_wid : ∀ (k : Nat) (l : List UInt8), 0 < k → Wid ((cutL l).drop k).flatten
  | 0, l, h => absurd h (Nat.lt_irrefl _)
  | k + 1, l, _ => by
    by_cases hl : l = []
    · subst hl; exact .inl (by simp [cutL_nil])
    · rw [cutL_step l hl, List.drop_succ_cons]
      cases k with
      | zero => rw [List.drop_zero, cutL_flatten]; exact clen_stop l
      | succ k => exact drop_wid (k + 1) _ (by omega)
theorem P_take {l : List UInt8} (h : PlainP l) (k : Nat) : PlainP ((cutL l).take k).flatten := flat_P _ fun c hc => cut_P l h c (List.mem_of_mem_take hc)
theorem P_drop {l : List UInt8} (h : PlainP l) (k : Nat) : PlainP ((cutL l).drop k).flatten := flat_P _ fun c hc => cut_P l h c (List.mem_of_mem_drop hc)
theorem cut_join {a y : List UInt8} (ha : PlainP a) (hy : Wid y) : cutL (a ++ y) = cutL a ++ cutL y := by
  have := cut_join_wide a y hy
  rwa [ha.clean] at this
theorem cut_takeK {l : List UInt8} (h : PlainP l) (k : Nat) : cutL ((cutL l).take k).flatten = (cutL l).take k := by
  by_cases h0 : k = 0
  · subst h0; simp [cutL_nil]
  · have h1 := cut_join (P_take h k) (drop_wid k l (by omega))
    rw [← pos_split, cutL_flatten, cut_dropK] at h1
    have h2 : (cutL l).take k ++ (cutL l).drop k = cutL ((cutL l).take k).flatten ++ (cutL l).drop k := by rw [List.take_append_drop]; exact h1
    exact (List.append_cancel_right h2).symm
end Go.Proofs.YtbkejjpkijjfaaaDoor
