/-
  How many columns signs take, and clusters, over lists alone: no program is named here.
-/
import Derived.Test.YtbkejjpkijjfaaaDoorMore
namespace Go.Proofs.YtbkejjpkijjfaaaDoor
open Go

/-- The ranges of signs that do not take one column: the first, the last, how many columns. -/
def spansL : List (Int × Int × Nat) :=
  [(768, 879, 0), (6832, 6911, 0), (7616, 7679, 0), (8203, 8205, 0), (8400, 8447, 0), (65024, 65039, 0), (65056, 65071, 0),
   (4352, 4447, 2), (11904, 12350, 2), (12353, 42191, 2), (44032, 55203, 2), (63744, 64255, 2), (65072, 65135, 2), (65281, 65376, 2), (65504, 65510, 2), (127744, 129791, 2), (131072, 262141, 2)]
def ofF : List (Int × Int × Nat) → Int → Nat
  | [], _ => 1
  | x :: xs, r => if x.1 ≤ r ∧ r ≤ x.2.1 then x.2.2 else ofF xs r
/-- How many columns a code point takes. -/
def ofL (r : Int) : Nat := ofF spansL r
theorem ofF_le : ∀ (xs : List (Int × Int × Nat)) (r : Int), (∀ x ∈ xs, x.2.2 ≤ 2) → ofF xs r ≤ 2
  | [], _, _ => by simp [ofF]
  | x :: xs, r, h => by
    unfold ofF
    split
    · exact h x (by simp)
    · exact ofF_le xs r (fun y hy => h y (by simp [hy]))
theorem ofL_le (r : Int) : ofL r ≤ 2 := ofF_le _ _ (by decide)
/-- Does a code point steer a terminal? -/
def ctlL (r : Int) : Bool := decide (r < 32 ∨ (127 ≤ r ∧ r ≤ 159))
theorem ofL_ctl (r : Int) (h : ctlL r = true) : ofL r = 1 := by
  simp only [ctlL, decide_eq_true_eq] at h
  unfold ofL spansL
  simp only [ofF]
  repeat rw [if_neg (by omega)]
theorem ofL_wrong : ofL 65533 = 1 := by decide +kernel
theorem ofL_dot : ofL 46 = 1 := by decide +kernel

def zlenF : Nat → List UInt8 → Nat
  | 0, _ => 0
  | f + 1, l => if l = [] ∨ ofL ((Lib.decodeL l).1 : Int) ≠ 0 then 0 else (Lib.decodeL l).2 + zlenF f (l.drop (Lib.decodeL l).2)
/-- How many bytes the signs of width 0 have with which l begins. -/
def zlen (l : List UInt8) : Nat := zlenF l.length l
theorem zlenF_nil (f : Nat) : zlenF f [] = 0 := by cases f <;> simp [zlenF]
theorem drop_lt (l : List UInt8) (hl : l ≠ []) : (l.drop (Lib.decodeL l).2).length < l.length := by
  have hw := Lib.decodeL_width l
  have h0 : 0 < l.length := List.length_pos_iff.2 hl
  rw [List.length_drop]; omega
theorem zlenF_more : ∀ (f g : Nat) (l : List UInt8), l.length ≤ f → l.length ≤ g → zlenF f l = zlenF g l
  | 0, g, l, hf, _ => by
    obtain rfl : l = [] := List.eq_nil_of_length_eq_zero (by omega)
    rw [zlenF_nil, zlenF_nil]
  | f + 1, 0, l, _, hg => by
    obtain rfl : l = [] := List.eq_nil_of_length_eq_zero (by omega)
    rw [zlenF_nil, zlenF_nil]
  | f + 1, g + 1, l, hf, hg => by
    by_cases hl : l = []
    · subst hl; rw [zlenF_nil, zlenF_nil]
    · have hd := drop_lt l hl
      simp only [zlenF]
      rw [zlenF_more f g _ (by omega) (by omega)]
theorem zlen_nil : zlen [] = 0 := rfl
theorem zlen_wide (l : List UInt8) (h : ofL ((Lib.decodeL l).1 : Int) ≠ 0) : zlen l = 0 := by
  unfold zlen
  cases l.length with
  | zero => rfl
  | succ n => simp [zlenF, h]
theorem zlen_zero (l : List UInt8) (hl : l ≠ []) (h : ofL ((Lib.decodeL l).1 : Int) = 0) : zlen l = (Lib.decodeL l).2 + zlen (l.drop (Lib.decodeL l).2) := by
  have hd := drop_lt l hl
  obtain ⟨b, t, rfl⟩ : ∃ b t, l = b :: t := by cases l <;> simp_all
  show zlenF (t.length + 1) _ = _
  simp only [zlenF, zlen]
  rw [if_neg (by simp [h]), zlenF_more t.length _ _ (by simp at hd ⊢; omega) (Nat.le_refl _)]
theorem zlen_le_aux : ∀ (n : Nat) (l : List UInt8), l.length ≤ n → zlen l ≤ l.length
  | 0, l, h => by
    obtain rfl : l = [] := List.eq_nil_of_length_eq_zero (by omega)
    simp [zlen_nil]
  | n + 1, l, h => by
    by_cases hl : l = []
    · subst hl; simp [zlen_nil]
    · by_cases hz : ofL ((Lib.decodeL l).1 : Int) = 0
      · have hd := drop_lt l hl
        have hle := Lib.decodeL_le l hl
        have := zlen_le_aux n (l.drop (Lib.decodeL l).2) (by omega)
        rw [List.length_drop] at this
        rw [zlen_zero l hl hz]
        omega
      · rw [zlen_wide l hz]; omega
theorem zlen_le (l : List UInt8) : zlen l ≤ l.length := zlen_le_aux _ _ (Nat.le_refl _)

theorem drop_take_dec (l : List UInt8) (n z : Nat) : (l.take (n + z)).drop n = (l.drop n).take z := by
  rw [List.drop_take, Nat.add_sub_cancel_left]
/-- The signs of width 0 with which l begins are, alone, such signs. -/
theorem zlen_take_aux : ∀ (n : Nat) (l : List UInt8), l.length ≤ n → zlen (l.take (zlen l)) = zlen l
  | 0, l, h => by
    obtain rfl : l = [] := List.eq_nil_of_length_eq_zero (by omega)
    simp [zlen_nil]
  | n + 1, l, h => by
    by_cases hl : l = []
    · subst hl; simp [zlen_nil]
    · by_cases hz : ofL ((Lib.decodeL l).1 : Int) = 0
      · have hd := drop_lt l hl
        have hw := Lib.decodeL_width l
        have hle := Lib.decodeL_le l hl
        have e := zlen_zero l hl hz
        have ih := zlen_take_aux n (l.drop (Lib.decodeL l).2) (by omega)
        have hdec : Lib.decodeL (l.take (zlen l)) = Lib.decodeL l := take_dec l _ (by omega)
        have hne : l.take (zlen l) ≠ [] := by
          intro h0
          have h2 := congrArg List.length h0
          rw [List.length_take, List.length_nil] at h2
          have := List.length_pos_iff.2 hl
          omega
        rw [zlen_zero _ hne (by rw [hdec]; exact hz), hdec]
        conv => lhs; rw [e]
        rw [drop_take_dec, ih, ← e]
      · rw [zlen_wide l hz]; simp [zlen_nil]
theorem zlen_take (l : List UInt8) : zlen (l.take (zlen l)) = zlen l := zlen_take_aux _ _ (Nat.le_refl _)

/-- How many bytes the first cluster of l has. -/
def clen (l : List UInt8) : Nat := (Lib.decodeL l).2 + zlen (l.drop (Lib.decodeL l).2)
theorem clen_pos (l : List UInt8) : 0 < clen l := by
  have hw := Lib.decodeL_width l
  unfold clen; omega
theorem clen_le (l : List UInt8) (hl : l ≠ []) : clen l ≤ l.length := by
  have hle := Lib.decodeL_le l hl
  have := zlen_le (l.drop (Lib.decodeL l).2)
  rw [List.length_drop] at this
  unfold clen; omega
theorem clen_zero (l : List UInt8) (hl : l ≠ []) (h : ofL ((Lib.decodeL l).1 : Int) = 0) : clen l = zlen l := (zlen_zero l hl h).symm
def cutF : Nat → List UInt8 → List (List UInt8)
  | 0, _ => []
  | f + 1, l => if l = [] then [] else l.take (clen l) :: cutF f (l.drop (clen l))
/-- The clusters of a text. -/
def cutL (l : List UInt8) : List (List UInt8) := cutF l.length l
theorem cutF_nil (f : Nat) : cutF f [] = [] := by cases f <;> simp [cutF]
theorem drop_clen_lt (l : List UInt8) (hl : l ≠ []) : (l.drop (clen l)).length < l.length := by
  have hw := clen_pos l
  have h0 : 0 < l.length := List.length_pos_iff.2 hl
  rw [List.length_drop]; omega
theorem cutF_more : ∀ (f g : Nat) (l : List UInt8), l.length ≤ f → l.length ≤ g → cutF f l = cutF g l
  | 0, g, l, hf, _ => by
    obtain rfl : l = [] := List.eq_nil_of_length_eq_zero (by omega)
    rw [cutF_nil, cutF_nil]
  | f + 1, 0, l, _, hg => by
    obtain rfl : l = [] := List.eq_nil_of_length_eq_zero (by omega)
    rw [cutF_nil, cutF_nil]
  | f + 1, g + 1, l, hf, hg => by
    by_cases hl : l = []
    · subst hl; rw [cutF_nil, cutF_nil]
    · have hd := drop_clen_lt l hl
      simp only [cutF, if_neg hl]
      rw [cutF_more f g _ (by omega) (by omega)]
theorem cutL_nil : cutL [] = [] := rfl
theorem cutL_step (l : List UInt8) (hl : l ≠ []) : cutL l = l.take (clen l) :: cutL (l.drop (clen l)) := by
  have hd := drop_clen_lt l hl
  obtain ⟨b, t, rfl⟩ : ∃ b t, l = b :: t := by cases l <;> simp_all
  show cutF (t.length + 1) _ = _
  simp only [cutF, if_neg hl, cutL]
  rw [cutF_more t.length _ _ (by simp at hd ⊢; omega) (Nat.le_refl _)]

/-- The clusters of cur and what is behind it, where cur is the beginning of one. -/
def cutFrom (cur l : List UInt8) : List (List UInt8) := (cur ++ l.take (zlen l)) :: cutL (l.drop (zlen l))
theorem cutFrom_nil (cur : List UInt8) : cutFrom cur [] = [cur] := by simp [cutFrom, zlen_nil, cutL_nil]
theorem cutFrom_zero (cur l : List UInt8) (hl : l ≠ []) (h : ofL ((Lib.decodeL l).1 : Int) = 0) : cutFrom cur l = cutFrom (cur ++ l.take (Lib.decodeL l).2) (l.drop (Lib.decodeL l).2) := by
  unfold cutFrom
  rw [zlen_zero l hl h, List.take_add, List.drop_drop, List.append_assoc]
theorem cutL_from (l : List UInt8) (hl : l ≠ []) : cutL l = cutFrom (l.take (Lib.decodeL l).2) (l.drop (Lib.decodeL l).2) := by
  rw [cutL_step l hl]
  unfold cutFrom clen
  rw [List.take_add, List.drop_drop]
theorem cutFrom_new (cur l : List UInt8) (hl : l ≠ []) (h : ofL ((Lib.decodeL l).1 : Int) ≠ 0) : cutFrom cur l = cur :: cutFrom (l.take (Lib.decodeL l).2) (l.drop (Lib.decodeL l).2) := by
  rw [← cutL_from l hl]
  unfold cutFrom
  rw [zlen_wide l h]
  simp
theorem cutFrom_ne (cur l : List UInt8) : cutFrom cur l ≠ [] := by simp [cutFrom]

theorem cut_induct {P : List UInt8 → Prop} (h0 : P []) (h1 : ∀ l, l ≠ [] → P (l.drop (clen l)) → P l) (l : List UInt8) : P l := by
  have : ∀ (n : Nat) (l : List UInt8), l.length ≤ n → P l := by
    intro n
    induction n with
    | zero => intro l h; obtain rfl : l = [] := List.eq_nil_of_length_eq_zero (by omega); exact h0
    | succ n ih =>
      intro l h
      by_cases hl : l = []
      · subst hl; exact h0
      · have hd := drop_clen_lt l hl
        exact h1 l hl (ih _ (by omega))
  exact this _ l (Nat.le_refl _)
theorem cutL_flatten (l : List UInt8) : (cutL l).flatten = l := by
  induction l using cut_induct with
  | h0 => rfl
  | h1 l hl ih => rw [cutL_step l hl, List.flatten_cons, ih, List.take_append_drop]
theorem cutL_length (l : List UInt8) : (cutL l).length ≤ l.length := by
  induction l using cut_induct with
  | h0 => simp [cutL_nil]
  | h1 l hl ih =>
    have hd := drop_clen_lt l hl
    rw [cutL_step l hl, List.length_cons]
    omega
theorem cutL_ne (l : List UInt8) (hl : l ≠ []) : cutL l ≠ [] := by rw [cutL_step l hl]; simp
/-- A cluster, cut again, is itself. -/
theorem cut_take (l : List UInt8) (hl : l ≠ []) : cutL (l.take (clen l)) = [l.take (clen l)] := by
  have hw := Lib.decodeL_width l
  have hcl := clen_le l hl
  have hdec : Lib.decodeL (l.take (clen l)) = Lib.decodeL l := take_dec l _ (by unfold clen; omega)
  have hne : l.take (clen l) ≠ [] := by
    intro h0
    have h2 := congrArg List.length h0
    rw [List.length_take, List.length_nil] at h2
    have := clen_pos l
    have := List.length_pos_iff.2 hl
    omega
  have hc : clen (l.take (clen l)) = (l.take (clen l)).length := by
    show (Lib.decodeL (l.take (clen l))).2 + zlen ((l.take (clen l)).drop (Lib.decodeL (l.take (clen l))).2) = _
    rw [hdec, show clen l = (Lib.decodeL l).2 + zlen (l.drop (Lib.decodeL l).2) from rfl, drop_take_dec, zlen_take, List.length_take]
    unfold clen at hcl
    omega
  rw [cutL_step _ hne, hc, List.take_length, List.drop_length, cutL_nil]
theorem cut_mem (l : List UInt8) : ∀ c ∈ cutL l, c ≠ [] ∧ cutL c = [c] ∧ c.length ≤ l.length := by
  induction l using cut_induct with
  | h0 => intro c hc; simp [cutL_nil] at hc
  | h1 l hl ih =>
    intro c hc
    rw [cutL_step l hl, List.mem_cons] at hc
    rcases hc with rfl | hc
    · refine ⟨?_, cut_take l hl, by simp; omega⟩
      intro h0
      have h2 := congrArg List.length h0
      rw [List.length_take, List.length_nil] at h2
      have := clen_pos l
      have := List.length_pos_iff.2 hl
      omega
    · obtain ⟨h1, h2, h3⟩ := ih c hc
      have hd := drop_clen_lt l hl
      exact ⟨h1, h2, by omega⟩
/-- What it is to be one cluster. -/
theorem one_iff (c : List UInt8) (hc : c ≠ []) (h : cutL c = [c]) : zlen (c.drop (Lib.decodeL c).2) = (c.drop (Lib.decodeL c).2).length := by
  rw [cutL_step c hc] at h
  injection h with h1 h2
  have h3 := congrArg List.length h1
  rw [List.length_take] at h3
  have hle := clen_le c hc
  unfold clen at *
  rw [List.length_drop]
  omega
theorem one_of (c : List UInt8) (hc : c ≠ []) (h : zlen (c.drop (Lib.decodeL c).2) = (c.drop (Lib.decodeL c).2).length) : cutL c = [c] := by
  have hle := Lib.decodeL_le c hc
  have e : clen c = c.length := by unfold clen; rw [h, List.length_drop]; omega
  rw [cutL_step c hc, e, List.take_length, List.drop_length, cutL_nil]
theorem enc_ne (r : Nat) (t : List UInt8) : Lib.encodeRune (r : Int) ++ t ≠ [] := by
  have hl := Lib.runeCells_le (r : Int)
  rw [Lib.runeCells_length] at hl
  intro h0
  have := congrArg List.length h0
  simp at this
  simp [this.1] at hl
theorem zlen_clean_aux : ∀ (n : Nat) (y : List UInt8), y.length ≤ n → zlen y = y.length → zlen (cleanL y) = (cleanL y).length
  | 0, y, h, _ => by
    obtain rfl : y = [] := List.eq_nil_of_length_eq_zero (by omega)
    rfl
  | n + 1, y, h, hy => by
    by_cases hl : y = []
    · subst hl; rfl
    · have h0 : 0 < y.length := List.length_pos_iff.2 hl
      have hz : ofL ((Lib.decodeL y).1 : Int) = 0 := by
        refine Classical.byContradiction fun hz => ?_
        rw [zlen_wide y hz] at hy
        omega
      have hd := drop_lt y hl
      have hle := Lib.decodeL_le y hl
      have hzz := zlen_zero y hl hz
      have ih := zlen_clean_aux n (y.drop (Lib.decodeL y).2) (by omega) (by rw [List.length_drop]; omega)
      rw [cleanL_step y hl]
      have hdec := dec_enc (Lib.decodeL y).1 (decodeL_valid y) (cleanL (y.drop (Lib.decodeL y).2))
      rw [zlen_zero _ (enc_ne _ _) (by rw [hdec]; exact hz), hdec]
      simp only [List.drop_left, List.length_append, ih]
theorem zlen_clean (y : List UInt8) (h : zlen y = y.length) : zlen (cleanL y) = (cleanL y).length := zlen_clean_aux _ _ (Nat.le_refl _) h
theorem dec_clean (c : List UInt8) (hc : c ≠ []) : (Lib.decodeL (cleanL c)).1 = (Lib.decodeL c).1 := by
  rw [cleanL_step c hc, dec_enc (Lib.decodeL c).1 (decodeL_valid c)]
theorem clean_ne (c : List UInt8) (hc : c ≠ []) : cleanL c ≠ [] := by rw [cleanL_step c hc]; exact enc_ne _ _
theorem one_clean (c : List UInt8) (hc : c ≠ []) (h : cutL c = [c]) : cutL (cleanL c) = [cleanL c] := by
  refine one_of _ (clean_ne c hc) ?_
  have h1 := zlen_clean _ (one_iff c hc h)
  rw [cleanL_step c hc, dec_enc (Lib.decodeL c).1 (decodeL_valid c)]
  simpa using h1

/-- How many columns a cluster takes; what is shown for it. -/
def wideL (c : List UInt8) : Nat := if c = [] then 0 else max 1 (ofL ((Lib.decodeL c).1 : Int))
def showL (c : List UInt8) : List UInt8 := if c = [] then [] else if ofL ((Lib.decodeL c).1 : Int) = 0 ∨ ctlL ((Lib.decodeL c).1 : Int) = true then [239, 191, 189] else cleanL c
theorem wideL_le (c : List UInt8) : wideL c ≤ 2 := by
  have := ofL_le ((Lib.decodeL c).1 : Int)
  unfold wideL
  split
  · omega
  · omega
theorem wrong_dec : Lib.decodeL [239, 191, 189] = (65533, 3) := by decide +kernel
theorem wrong_cut : cutL [239, 191, 189] = [[239, 191, 189]] := one_of _ (by simp) (by rw [wrong_dec]; rfl)
theorem show_cut (c : List UInt8) (hc : c ≠ []) (h : cutL c = [c]) : cutL (showL c) = [showL c] := by
  unfold showL
  rw [if_neg hc]
  split
  · exact wrong_cut
  · exact one_clean c hc h
theorem show_wide (c : List UInt8) (hc : c ≠ []) : wideL (showL c) = wideL c := by
  unfold showL
  rw [if_neg hc]
  split
  · rename_i h
    have h1 : wideL [239, 191, 189] = 1 := by
      unfold wideL
      rw [if_neg (by simp), wrong_dec]
      rw [show ((65533 : Nat) : Int) = 65533 from rfl, ofL_wrong]; rfl
    rw [h1]
    unfold wideL
    rw [if_neg hc]
    rcases h with h | h
    · rw [h]; rfl
    · rw [ofL_ctl _ h]; rfl
  · unfold wideL
    rw [if_neg (clean_ne c hc), if_neg hc, dec_clean c hc]

/-- Where clusters begin, one behind the other from a on, and where they end. -/
def bnd : Nat → List (List UInt8) → List Nat
  | a, [] => [a]
  | a, c :: cs => a :: bnd (a + c.length) cs
def withAt : Nat → List (List UInt8) → List (Nat × List UInt8)
  | _, [] => []
  | a, c :: cs => (a, c) :: withAt (a + c.length) cs
theorem withAt_append : ∀ (a : Nat) (xs ys : List (List UInt8)), withAt a (xs ++ ys) = withAt a xs ++ withAt (a + xs.flatten.length) ys
  | a, [], ys => by simp [withAt]
  | a, c :: cs, ys => by
    simp only [List.cons_append, withAt, withAt_append (a + c.length) cs ys, List.flatten_cons, List.length_append]
    rw [Nat.add_assoc]
theorem withAt_length : ∀ (a : Nat) (xs : List (List UInt8)), (withAt a xs).length = xs.length
  | _, [] => rfl
  | a, c :: cs => by simp [withAt, withAt_length (a + c.length) cs]
theorem withAt_snd : ∀ (a : Nat) (xs : List (List UInt8)), (withAt a xs).map (·.2) = xs
  | _, [] => rfl
  | a, c :: cs => by simp [withAt, withAt_snd (a + c.length) cs]
theorem withAt_bnd : ∀ (a : Nat) (xs : List (List UInt8)), bnd a xs = (withAt a xs).map (·.1) ++ [a + xs.flatten.length]
  | a, [] => by simp [bnd, withAt]
  | a, c :: cs => by
    simp only [bnd, withAt, withAt_bnd (a + c.length) cs, List.map_cons, List.cons_append, List.flatten_cons, List.length_append, Nat.add_assoc]
theorem bnd_length (a : Nat) (xs : List (List UInt8)) : (bnd a xs).length = xs.length + 1 := by
  rw [withAt_bnd]; simp [withAt_length]
theorem bnd_snoc (a : Nat) (xs : List (List UInt8)) (c : List UInt8) : bnd a (xs ++ [c]) = bnd a xs ++ [a + xs.flatten.length + c.length] := by
  rw [withAt_bnd, withAt_bnd, withAt_append]
  simp [withAt, Nat.add_assoc]
theorem bnd_getD : ∀ (a : Nat) (xs : List (List UInt8)) (k : Nat), k ≤ xs.length → (bnd a xs).getD k 0 = a + (xs.take k).flatten.length
  | a, [], k, h => by
    obtain rfl : k = 0 := by simpa using h
    simp [bnd]
  | a, c :: cs, 0, h => by simp [bnd]
  | a, c :: cs, k + 1, h => by
    have := bnd_getD (a + c.length) cs k (by simpa using h)
    simp only [bnd, List.getD_cons_succ, this, List.take_succ_cons, List.flatten_cons, List.length_append, Nat.add_assoc]
theorem bnd_le (xs : List (List UInt8)) (k : Nat) : (bnd 0 xs).getD k 0 ≤ xs.flatten.length := by
  by_cases h : k ≤ xs.length
  · rw [bnd_getD 0 xs k h, Nat.zero_add]
    have : (xs.take k).flatten.length + (xs.drop k).flatten.length = xs.flatten.length := by
      rw [← List.length_append, ← List.flatten_append, List.take_append_drop]
    omega
  · have : (bnd 0 xs).length ≤ k := by rw [bnd_length]; omega
    simp [List.getD, List.getElem?_eq_none this]
/-- The clusters of a text, each with where it begins; where they begin. -/
def eachL (l : List UInt8) : List (Nat × List UInt8) := withAt 0 (cutL l)
def boundsL (l : List UInt8) : List Nat := bnd 0 (cutL l)
theorem boundsL_each (l : List UInt8) : boundsL l = (eachL l).map (·.1) ++ [l.length] := by
  unfold boundsL eachL
  rw [withAt_bnd, cutL_flatten, Nat.zero_add]

/-- How many columns texts take. -/
def wides (cs : List (List UInt8)) : Nat := (cs.map wideL).sum
def sumL (l : List UInt8) : Nat := wides (cutL l)
theorem wides_append (a b : List (List UInt8)) : wides (a ++ b) = wides a + wides b := by simp [wides]
theorem wides_snoc (a : List (List UInt8)) (c : List UInt8) : wides (a ++ [c]) = wides a + wideL c := by simp [wides]
theorem wides_le (cs : List (List UInt8)) : wides cs ≤ 2 * cs.length := by
  induction cs with
  | nil => simp [wides]
  | cons c cs ih =>
    have := wideL_le c
    simp only [wides, List.map_cons, List.sum_cons, List.length_cons] at *
    omega

/-- Clean texts, one behind the other. -/
theorem cutFrom_enc : ∀ (rs : List Nat) (_ : ∀ r ∈ rs, Valid r) (cur y : List UInt8), cutFrom cur (encL rs ++ y) = (cutFrom cur (encL rs)).dropLast ++ cutFrom ((cutFrom cur (encL rs)).getLast (cutFrom_ne _ _)) y
  | [], _, cur, y => by
    have h : encL [] = [] := rfl
    simp [h, cutFrom_nil]
  | r :: rs, h, cur, y => by
    have hd := fun t => dec_enc r (h r (by simp)) t
    have ih := cutFrom_enc rs (fun x hx => h x (by simp [hx]))
    have e : encL (r :: rs) ++ y = Lib.encodeRune (r : Int) ++ (encL rs ++ y) := by rw [encL_cons, List.append_assoc]
    by_cases hz : ofL (r : Int) = 0
    · have e1 : cutFrom cur (Lib.encodeRune (r : Int) ++ (encL rs ++ y)) = cutFrom (cur ++ Lib.encodeRune (r : Int)) (encL rs ++ y) := by
        rw [cutFrom_zero _ _ (enc_ne _ _) (by rw [hd]; exact hz), hd]; simp
      have e2 : cutFrom cur (encL (r :: rs)) = cutFrom (cur ++ Lib.encodeRune (r : Int)) (encL rs) := by
        rw [encL_cons, cutFrom_zero _ _ (enc_ne _ _) (by rw [hd]; exact hz), hd]; simp
      rw [e, e1, ih]
      simp only [e2]
    · have e1 : cutFrom cur (Lib.encodeRune (r : Int) ++ (encL rs ++ y)) = cur :: cutFrom (Lib.encodeRune (r : Int)) (encL rs ++ y) := by
        rw [cutFrom_new _ _ (enc_ne _ _) (by rw [hd]; exact hz), hd]; simp
      have e2 : cutFrom cur (encL (r :: rs)) = cur :: cutFrom (Lib.encodeRune (r : Int)) (encL rs) := by
        rw [encL_cons, cutFrom_new _ _ (enc_ne _ _) (by rw [hd]; exact hz), hd]; simp
      rw [e, e1, ih]
      simp only [e2, List.dropLast_cons_of_ne_nil (cutFrom_ne _ _), List.getLast_cons (cutFrom_ne _ _), List.cons_append]
theorem cutL_enc (rs : List Nat) (h : ∀ r ∈ rs, Valid r) (hr : rs ≠ []) (y : List UInt8) : ∃ init lst, cutL (encL rs) = init ++ [lst] ∧ cutL (encL rs ++ y) = init ++ cutFrom lst y := by
  obtain ⟨r, t, rfl⟩ : ∃ r t, rs = r :: t := by cases rs <;> simp_all
  have hd := fun u => dec_enc r (h r (by simp)) u
  have e1 : cutL (encL (r :: t)) = cutFrom (Lib.encodeRune (r : Int)) (encL t) := by
    rw [encL_cons, cutL_from _ (enc_ne _ _), hd]; simp
  have e2 : cutL (encL (r :: t) ++ y) = cutFrom (Lib.encodeRune (r : Int)) (encL t ++ y) := by
    rw [encL_cons, List.append_assoc, cutL_from _ (enc_ne _ _), hd]; simp
  refine ⟨(cutFrom (Lib.encodeRune (r : Int)) (encL t)).dropLast, (cutFrom (Lib.encodeRune (r : Int)) (encL t)).getLast (cutFrom_ne _ _), ?_, ?_⟩
  · rw [e1, List.dropLast_concat_getLast]
  · rw [e2, cutFrom_enc t (fun x hx => h x (by simp [hx]))]
/-- Put together, where the second one does not begin with a sign of width 0. -/
theorem cut_join_wide (a y : List UInt8) (hy : y = [] ∨ ofL ((Lib.decodeL y).1 : Int) ≠ 0) : cutL (cleanL a ++ y) = cutL (cleanL a) ++ cutL y := by
  by_cases hr : runes a = []
  · have : cleanL a = [] := by rw [cleanL_enc, hr]; rfl
    rw [this]; simp [cutL_nil]
  · obtain ⟨init, lst, h1, h2⟩ := cutL_enc (runes a) (runes_valid a) hr y
    rw [cleanL_enc, h1, h2]
    by_cases h0 : y = []
    · subst h0; rw [cutFrom_nil, cutL_nil, List.append_nil]
    · have hz : ofL ((Lib.decodeL y).1 : Int) ≠ 0 := hy.resolve_left h0
      rw [cutFrom_new _ _ h0 hz, ← cutL_from y h0]
      simp
theorem cut_join_zero (a y : List UInt8) (ha : cleanL a ≠ []) (hy : y ≠ []) (hz : ofL ((Lib.decodeL y).1 : Int) = 0) :
    ∃ init lst c rest, cutL (cleanL a) = init ++ [lst] ∧ cutL y = c :: rest ∧ cutL (cleanL a ++ y) = init ++ (lst ++ c) :: rest := by
  have hr : runes a ≠ [] := by
    intro h
    exact ha (by rw [cleanL_enc, h]; rfl)
  obtain ⟨init, lst, h1, h2⟩ := cutL_enc (runes a) (runes_valid a) hr y
  refine ⟨init, lst, y.take (zlen y), cutL (y.drop (zlen y)), by rw [cleanL_enc, h1], ?_, by rw [cleanL_enc, h2]; rfl⟩
  rw [cutL_step y hy, clen_zero y hy hz]
end Go.Proofs.YtbkejjpkijjfaaaDoor
