/-
  Layer 7 and what it stands on, part 4 (Plain RefMath More CutMath TextMath TextMake SwapMath).
-/
import Derived.Lib.TrimUEq
import Derived.Lib.RuneBytes
import Derived.Lib.MapLaws
import Derived.Lib.QuoteLoop
namespace Go.Proofs.YteafcaambnfdoaaGreatDoor
section
open Go
/-- A list of bytes as numbers. -/
def nums (l : List UInt8) : List Int := l.map fun b => (b.toNat : Int)
theorem nums_length (l : List UInt8) : (nums l).length = l.length := by simp [nums]
theorem nums_getD (l : List UInt8) (i : Nat) : (nums l).getD i 0 = ((l.getD i 0).toNat : Int) := by
  simp only [nums, List.getD, List.getElem?_map]
  cases l[i]? <;> simp
/-- The first sign of a list of bytes, and how many bytes it has. -/
def nextL (l : List UInt8) : Nat × Nat := if l = [] then (0, 0) else Lib.decodeL l
def runesF : Nat → List UInt8 → List Nat
  | 0, _ => []
  | f + 1, l => if l = [] then [] else (Lib.decodeL l).1 :: runesF f (l.drop (Lib.decodeL l).2)
/-- All signs of a list of bytes. -/
def runes (l : List UInt8) : List Nat := runesF l.length l
theorem runesF_nil (f : Nat) : runesF f [] = [] := by cases f <;> simp [runesF]
theorem runesF_more : ∀ (f g : Nat) (l : List UInt8), l.length ≤ f → l.length ≤ g → runesF f l = runesF g l
  | 0, g, l, hf, _ => by
    obtain rfl : l = [] := List.eq_nil_of_length_eq_zero (by omega)
    rw [runesF_nil, runesF_nil]
  | f + 1, 0, l, _, hg => by
    obtain rfl : l = [] := List.eq_nil_of_length_eq_zero (by omega)
    rw [runesF_nil, runesF_nil]
  | f + 1, g + 1, l, hf, hg => by
    by_cases hl : l = []
    · subst hl; rw [runesF_nil, runesF_nil]
    · have hw := Lib.decodeL_width l
      have h0 : 0 < l.length := by cases l <;> simp_all
      have hd : (l.drop (Lib.decodeL l).2).length < l.length := by rw [List.length_drop]; omega
      simp only [runesF, if_neg hl]
      rw [runesF_more f g _ (by omega) (by omega)]
theorem runes_nil : runes [] = [] := rfl
theorem runes_step (l : List UInt8) (hl : l ≠ []) : runes l = (Lib.decodeL l).1 :: runes (l.drop (Lib.decodeL l).2) := by
  have hw := Lib.decodeL_width l
  obtain ⟨b, t, rfl⟩ : ∃ b t, l = b :: t := by cases l <;> simp_all
  show runesF (t.length + 1) _ = _
  simp only [runesF, if_neg hl, runes]
  rw [runesF_more t.length _ _ (by rw [List.length_drop]; simp; omega) (Nat.le_refl _)]
/-- The bytes of all signs. -/
def cleanL (l : List UInt8) : List UInt8 := (runes l).flatMap fun (r : Nat) => Lib.encodeRune (r : Int)
/-- Can no bytes behind l change its first sign? By the tables of unicode/utf8. -/
def wholeL (l : List UInt8) : Bool :=
  decide (0 < l.length ∧ (Lib.firstT (l.getD 0 0).toNat % 8 ≤ l.length ∨
    (1 < l.length ∧ ((l.getD 1 0).toNat < Lib.accLo (Lib.firstT (l.getD 0 0).toNat / 16) ∨ Lib.accHi (Lib.firstT (l.getD 0 0).toNat / 16) < (l.getD 1 0).toNat)) ∨
    (2 < l.length ∧ ((l.getD 2 0).toNat < 128 ∨ 191 < (l.getD 2 0).toNat))))
def feedF : Nat → List UInt8 → List Nat × List UInt8
  | 0, l => ([], l)
  | f + 1, l => if wholeL l = true then ((Lib.decodeL l).1 :: (feedF f (l.drop (Lib.decodeL l).2)).1, (feedF f (l.drop (Lib.decodeL l).2)).2) else ([], l)
/-- What is told of bytes as long as what waits is whole, and what waits then. -/
def feedL (l : List UInt8) : List Nat × List UInt8 := feedF l.length l
/-- Is it a code point that is a sign? -/
def Valid (r : Nat) : Prop := r < 55296 ∨ (57343 < r ∧ r ≤ 1114111)
theorem decodeL_valid (l : List UInt8) : Valid (Lib.decodeL l).1 := by
  rw [Lib.decodeL_N]
  exact Lib.decodeN_valid _ _ _ _ _ (UInt8.toNat_lt _)
theorem runesF_valid : ∀ (f : Nat) (l : List UInt8), ∀ r ∈ runesF f l, Valid r
  | 0, _, r, h => by simp [runesF] at h
  | f + 1, l, r, h => by
    by_cases hl : l = []
    · simp [runesF, hl] at h
    · simp only [runesF, if_neg hl, List.mem_cons] at h
      rcases h with h | h
      · rw [h]; exact decodeL_valid l
      · exact runesF_valid f _ r h
theorem runes_valid (l : List UInt8) : ∀ r ∈ runes l, Valid r := runesF_valid _ _
theorem runesF_length : ∀ (f : Nat) (l : List UInt8), (runesF f l).length ≤ l.length
  | 0, _ => by simp [runesF]
  | f + 1, l => by
    by_cases hl : l = []
    · simp [runesF, hl]
    · have hw := Lib.decodeL_width l
      have h0 : 0 < l.length := List.length_pos_iff.2 hl
      have := runesF_length f (l.drop (Lib.decodeL l).2)
      rw [List.length_drop] at this
      simp only [runesF, if_neg hl, List.length_cons]
      omega
theorem runes_length (l : List UInt8) : (runes l).length ≤ l.length := runesF_length _ _
end
section
open Go
theorem getD_map_u8 (zs : List Int) (h : ∀ x ∈ zs, 0 ≤ x ∧ x < 256) (i : Nat) (hi : i < zs.length) : ((((zs.map fun (x : Int) => x.toNat.toUInt8).getD i 0).toNat : Nat) : Int) = zs.getD i 0 := by
  have hm := h zs[i] (List.getElem_mem hi)
  simp [List.getD, hi]
  omega
theorem enc_length (r : Int) : (Lib.encodeRune r).length = (Lib.encodeRuneZ r).length := by simp [Lib.encodeRune]
theorem enc_getD (r : Int) (i : Nat) (hi : i < (Lib.encodeRuneZ r).length) : ((((Lib.encodeRune r).getD i 0).toNat : Nat) : Int) = (Lib.encodeRuneZ r).getD i 0 := getD_map_u8 _ (Lib.encodeRuneZ_byte r) i hi
/-- Does l begin with the bytes p, and are these some? -/
def begL (l p : List UInt8) : Bool := decide (0 < p.length ∧ p.length ≤ l.length ∧ ∀ i, i < p.length → (l.getD i 0).toNat = (p.getD i 0).toNat)
/-- The bytes of a code point that is a sign; nothing of others. -/
def bytesL (r : Int) : List UInt8 := if r < 0 ∨ 1114111 < r ∨ (55296 ≤ r ∧ r ≤ 57343) then [] else Lib.encodeRune r
/-- The last six bits of the byte at k, or -1. -/
def lowL (l : List UInt8) (k : Nat) : Int := if k < l.length ∧ 128 ≤ (l.getD k 0).toNat ∧ (l.getD k 0).toNat ≤ 191 then ((l.getD k 0).toNat : Int) - 128 else -1
/-- The candidates. -/
def cand2 (l : List UInt8) : Int := 64 * (((l.getD 0 0).toNat : Int) - 192) + lowL l 1
def cand3 (l : List UInt8) : Int := 4096 * (((l.getD 0 0).toNat : Int) - 224) + 64 * lowL l 1 + lowL l 2
def cand4 (l : List UInt8) : Int := 262144 * (((l.getD 0 0).toNat : Int) - 240) + 4096 * lowL l 1 + 64 * lowL l 2 + lowL l 3
end
section
open Go
/-- The bytes of signs, one behind the other. -/
def encL (rs : List Nat) : List UInt8 := rs.flatMap fun (r : Nat) => Lib.encodeRune (r : Int)
theorem cleanL_enc (l : List UInt8) : cleanL l = encL (runes l) := rfl
theorem encL_cons (r : Nat) (rs : List Nat) : encL (r :: rs) = Lib.encodeRune (r : Int) ++ encL rs := by simp [encL]
theorem encL_append (a b : List Nat) : encL (a ++ b) = encL a ++ encL b := by simp [encL]
theorem encL_length (rs : List Nat) : (encL rs).length ≤ 4 * rs.length := by
  induction rs with
  | nil => simp [encL]
  | cons r t ih =>
    have := Lib.runeCells_le (r : Int)
    rw [Lib.runeCells_length] at this
    rw [encL_cons, List.length_append, List.length_cons]
    omega
theorem getD_left (a b : List UInt8) (i : Nat) (h : i < a.length) : (a ++ b).getD i 0 = a.getD i 0 := by
  simp [List.getD, List.getElem?_append, h]
/-- What was written for a sign is read as it. -/
theorem dec_enc (r : Nat) (h : Valid r) (t : List UInt8) : Lib.decodeL (Lib.encodeRune (r : Int) ++ t) = (r, (Lib.encodeRune (r : Int)).length) := by
  unfold Valid at h
  have hl := enc_length (r : Int)
  have hg : ∀ i, i < (Lib.encodeRuneZ (r : Int)).length → ((((Lib.encodeRune (r : Int) ++ t).getD i 0).toNat : Nat) : Int) = (Lib.encodeRuneZ (r : Int)).getD i 0 := fun i hi => by
    rw [getD_left _ _ _ (by rw [hl]; exact hi)]; exact enc_getD (r : Int) i hi
  have hn : (Lib.encodeRune (r : Int) ++ t).length = (Lib.encodeRuneZ (r : Int)).length + t.length := by rw [List.length_append, hl]
  rw [Lib.decodeL_N, hn, hl]
  clear hn hl
  by_cases h1 : r ≤ 127
  · have hZ := Lib.encodeRuneZ_one (r := (r : Int)) (by omega) (by omega)
    rw [hZ] at hg ⊢
    have q0 := hg 0 (by simp)
    simp only [List.getD_cons_zero] at q0
    clear hg
    generalize ((Lib.encodeRune (r : Int) ++ t).getD 0 0).toNat = b0 at *
    unfold Lib.decodeN
    rw [if_pos (by omega)]
    apply Prod.ext <;> simp only [List.length_cons, List.length_nil] <;> omega
  · by_cases h2 : r ≤ 2047
    · have hZ := Lib.encodeRuneZ_two (r := (r : Int)) (by omega) (by omega)
      rw [hZ] at hg ⊢
      have q0 := hg 0 (by simp)
      have q1 := hg 1 (by simp)
      simp only [List.getD_cons_zero, List.getD_cons_succ] at q0 q1
      clear hg
      generalize ((Lib.encodeRune (r : Int) ++ t).getD 0 0).toNat = b0 at *
      generalize ((Lib.encodeRune (r : Int) ++ t).getD 1 0).toNat = b1 at *
      simp only [List.length_cons, List.length_nil]
      unfold Lib.decodeN
      rw [if_neg (by omega), if_pos (by omega), if_pos (by omega)]
      apply Prod.ext <;> simp only <;> omega
    · by_cases h3 : r ≤ 65535
      · have hZ := Lib.encodeRuneZ_three (r := (r : Int)) (by omega)
        rw [hZ] at hg ⊢
        have q0 := hg 0 (by simp)
        have q1 := hg 1 (by simp)
        have q2 := hg 2 (by simp)
        simp only [List.getD_cons_zero, List.getD_cons_succ] at q0 q1 q2
        clear hg
        generalize ((Lib.encodeRune (r : Int) ++ t).getD 0 0).toNat = b0 at *
        generalize ((Lib.encodeRune (r : Int) ++ t).getD 1 0).toNat = b1 at *
        generalize ((Lib.encodeRune (r : Int) ++ t).getD 2 0).toNat = b2 at *
        simp only [List.length_cons, List.length_nil]
        unfold Lib.decodeN
        rw [if_neg (by omega), if_neg (by omega), if_pos (by omega), if_pos (by omega)]
        apply Prod.ext <;> simp only <;> omega
      · have hZ := Lib.encodeRuneZ_four (r := (r : Int)) (by omega) (by omega)
        rw [hZ] at hg ⊢
        have q0 := hg 0 (by simp)
        have q1 := hg 1 (by simp)
        have q2 := hg 2 (by simp)
        have q3 := hg 3 (by simp)
        simp only [List.getD_cons_zero, List.getD_cons_succ] at q0 q1 q2 q3
        clear hg
        generalize ((Lib.encodeRune (r : Int) ++ t).getD 0 0).toNat = b0 at *
        generalize ((Lib.encodeRune (r : Int) ++ t).getD 1 0).toNat = b1 at *
        generalize ((Lib.encodeRune (r : Int) ++ t).getD 2 0).toNat = b2 at *
        generalize ((Lib.encodeRune (r : Int) ++ t).getD 3 0).toNat = b3 at *
        simp only [List.length_cons, List.length_nil]
        unfold Lib.decodeN
        rw [if_neg (by omega), if_neg (by omega), if_neg (by omega), if_pos (by omega), if_pos (by omega)]
        apply Prod.ext <;> simp only <;> omega
theorem runes_enc_append : ∀ (rs : List Nat), (∀ r ∈ rs, Valid r) → ∀ b : List UInt8, runes (encL rs ++ b) = rs ++ runes b
  | [], _, b => by simp [encL]
  | r :: rs, h, b => by
    have hl := Lib.runeCells_le (r : Int)
    rw [Lib.runeCells_length] at hl
    rw [encL_cons, List.append_assoc]
    have hne : Lib.encodeRune (r : Int) ++ (encL rs ++ b) ≠ [] := by
      intro h0
      have := congrArg List.length h0
      simp at this
      simp [this.1] at hl
    rw [runes_step _ hne, dec_enc r (h r (by simp)) _, List.drop_left, runes_enc_append rs (fun x hx => h x (by simp [hx])) b]
    simp
theorem runes_enc (rs : List Nat) (h : ∀ r ∈ rs, Valid r) : runes (encL rs) = rs := by
  have := runes_enc_append rs h []
  simpa [runes_nil] using this
theorem runes_clean (l : List UInt8) : runes (cleanL l) = runes l := runes_enc _ (runes_valid l)
theorem clean_length (l : List UInt8) : (cleanL l).length ≤ 4 * l.length := by
  have h1 := encL_length (runes l)
  have h2 := runes_length l
  rw [cleanL_enc]
  omega
/-- A sign is told by its own bytes. -/
theorem decodeN_take (n m b0 b1 b2 b3 : Nat) (hmn : m ≤ n) (h : (Lib.decodeN n b0 b1 b2 b3).2 ≤ m) : Lib.decodeN m b0 b1 b2 b3 = Lib.decodeN n b0 b1 b2 b3 := by
  have hs := Lib.decodeN_shape n b0 b1 b2 b3
  have hm := Lib.decodeN_shape m b0 b1 b2 b3
  rcases hs with ⟨h1, e⟩ | ⟨h1, h2, h3, h4, e⟩ | ⟨h1, h2, h3, h4, h5, h6, e⟩ | ⟨h1, h2, h3, h4, h5, h6, h7, e⟩ | e
  · rw [e]; unfold Lib.decodeN; rw [if_pos h1]
  · rw [e] at h ⊢
    simp only at h
    unfold Lib.decodeN
    rw [if_neg (by omega), if_pos (by omega), if_pos (by omega)]
  · rw [e] at h ⊢
    simp only at h
    unfold Lib.decodeN
    rw [if_neg (by omega), if_neg (by omega), if_pos (by omega), if_pos (by omega)]
  · rw [e] at h ⊢
    simp only at h
    unfold Lib.decodeN
    rw [if_neg (by omega), if_neg (by omega), if_neg (by omega), if_pos (by omega), if_pos (by omega)]
  · rcases hm with ⟨h1, e'⟩ | ⟨h1, h2, h3, h4, e'⟩ | ⟨h1, h2, h3, h4, h5, h6, e'⟩ | ⟨h1, h2, h3, h4, h5, h6, h7, e'⟩ | e'
    · rw [e']
      unfold Lib.decodeN
      rw [if_pos h1]
    · exfalso
      unfold Lib.decodeN at e
      rw [if_neg (by omega), if_pos (by omega), if_pos (by omega)] at e
      simp at e
    · exfalso
      unfold Lib.decodeN at e
      rw [if_neg (by omega), if_neg (by omega), if_pos (by omega), if_pos (by omega)] at e
      simp at e
    · exfalso
      unfold Lib.decodeN at e
      rw [if_neg (by omega), if_neg (by omega), if_neg (by omega), if_pos (by omega), if_pos (by omega)] at e
      simp at e
    · rw [e, e']
theorem decodeN_first (n b0 b1 b2 b3 c1 c2 c3 : Nat) (h1 : 1 < n → b1 = c1) (h2 : 2 < n → b2 = c2) (h3 : 3 < n → b3 = c3) : Lib.decodeN n b0 b1 b2 b3 = Lib.decodeN n b0 c1 c2 c3 := by
  by_cases k1 : 1 < n
  · rw [h1 k1]
    by_cases k2 : 2 < n
    · rw [h2 k2]
      by_cases k3 : 3 < n
      · rw [h3 k3]
      · simp only [Lib.decodeN, k3, false_and, and_false, if_false]
    · have k3 : ¬ 3 < n := by omega
      simp only [Lib.decodeN, k2, k3, false_and, and_false, if_false]
  · have k2 : ¬ 2 < n := by omega
    have k3 : ¬ 3 < n := by omega
    simp only [Lib.decodeN, k1, k2, k3, false_and, and_false, if_false]
theorem getD_take (l : List UInt8) (m i : Nat) (h : i < m) : (l.take m).getD i 0 = l.getD i 0 := by
  simp [List.getD, h]
theorem take_dec (x : List UInt8) (m : Nat) (h : (Lib.decodeL x).2 ≤ m) : Lib.decodeL (x.take m) = Lib.decodeL x := by
  have hw := Lib.decodeL_width x
  have hm1 : 0 < m := by omega
  by_cases hm : x.length ≤ m
  · rw [List.take_of_length_le hm]
  · rw [Lib.decodeL_N] at h ⊢
    rw [Lib.decodeL_N x, List.length_take, Nat.min_eq_left (by omega), getD_take x m 0 hm1]
    rw [decodeN_first m _ _ _ _ (x.getD 1 0).toNat (x.getD 2 0).toNat (x.getD 3 0).toNat (fun h => by rw [getD_take x m 1 h]) (fun h => by rw [getD_take x m 2 h]) (fun h => by rw [getD_take x m 3 h])]
    exact decodeN_take _ _ _ _ _ _ (by omega) h
/-- Places at which a sign ends, found from the front. -/
inductive Bound (l : List UInt8) : Nat → Prop
  | zero : Bound l 0
  | step {k : Nat} : Bound l k → k < l.length → Bound l (k + (Lib.decodeL (l.drop k)).2)
theorem Bound.le {l : List UInt8} {k : Nat} (h : Bound l k) : k ≤ l.length := by
  induction h with
  | zero => omega
  | @step k _ hk _ =>
    have hne : l.drop k ≠ [] := by
      intro h0
      have := congrArg List.length h0
      simp at this
      omega
    have := Lib.decodeL_le _ hne
    rw [List.length_drop] at this
    omega
theorem Bound.runes {l : List UInt8} {k : Nat} (h : Bound l k) : ∃ rs, ∀ m, k ≤ m → YteafcaambnfdoaaGreatDoor.runes (l.take m) = rs ++ YteafcaambnfdoaaGreatDoor.runes ((l.take m).drop k) := by
  induction h with
  | zero => exact ⟨[], fun m _ => by simp⟩
  | @step k hb hk ih =>
    obtain ⟨rs, ih⟩ := ih
    refine ⟨rs ++ [(Lib.decodeL (l.drop k)).1], fun m hm => ?_⟩
    have hw := Lib.decodeL_width (l.drop k)
    rw [ih m (by omega)]
    have e : (l.take m).drop k = (l.drop k).take (m - k) := List.drop_take
    have hne : (l.take m).drop k ≠ [] := by
      intro h0
      have := congrArg List.length h0
      simp at this
      omega
    have hd : Lib.decodeL ((l.take m).drop k) = Lib.decodeL (l.drop k) := by rw [e]; exact take_dec _ _ (by omega)
    rw [runes_step _ hne, hd, List.drop_drop]
    simp
theorem Bound.cut {l : List UInt8} {k : Nat} (h : Bound l k) : YteafcaambnfdoaaGreatDoor.runes (l.take k) ++ YteafcaambnfdoaaGreatDoor.runes (l.drop k) = YteafcaambnfdoaaGreatDoor.runes l := by
  obtain ⟨rs, hr⟩ := h.runes
  have h1 := hr k (Nat.le_refl _)
  have h2 := hr l.length h.le
  rw [List.drop_eq_nil_of_le (by simp; omega), runes_nil, List.append_nil] at h1
  rw [List.take_length] at h2
  rw [h1, h2]
end
section
open Go
/-- The ranges of signs that do not take one column: the first, the last, how many columns. -/
def spansL : List (Int × Int × Nat) :=
  [(768, 879, 0), (6832, 6911, 0), (7616, 7679, 0), (8203, 8205, 0), (8400, 8447, 0), (65024, 65039, 0), (65056, 65071, 0),
   (4352, 4447, 2), (11904, 12350, 2), (12353, 42191, 2), (44032, 55203, 2), (63744, 64255, 2), (65072, 65135, 2), (65281, 65376, 2), (65504, 65510, 2), (127744, 129791, 2), (131072, 262141, 2)]
def ofF : List (Int × Int × Nat) → Int → Nat
  | [], _ => 1
  | x :: xs, r => if x.1 ≤ r ∧ r ≤ x.2.1 then x.2.2 else ofF xs r
/-- How many columns a code point takes. -/
def ofL (r : Int) : Nat := ofF spansL r
/-- Does a code point steer a terminal? -/
def ctlL (r : Int) : Bool := decide (r < 32 ∨ (127 ≤ r ∧ r ≤ 159))
def zlenF : Nat → List UInt8 → Nat
  | 0, _ => 0
  | f + 1, l => if l = [] ∨ ofL ((Lib.decodeL l).1 : Int) ≠ 0 then 0 else (Lib.decodeL l).2 + zlenF f (l.drop (Lib.decodeL l).2)
/-- How many bytes the signs of width 0 have with which l begins. -/
def zlen (l : List UInt8) : Nat := zlenF l.length l
theorem zlenF_nil (f : Nat) : zlenF f [] = 0 := by cases f <;> simp [zlenF]
theorem drop_lt (l : List UInt8) (hl : l ≠ []) : (l.drop (Lib.decodeL l).2).length < l.length := by
  have hw := Lib.decodeL_width l
  have h0 : 0 < l.length := List.length_pos_iff.2 hl
  rw [List.length_drop]; omega
theorem zlenF_more : ∀ (f g : Nat) (l : List UInt8), l.length ≤ f → l.length ≤ g → zlenF f l = zlenF g l
  | 0, g, l, hf, _ => by
    obtain rfl : l = [] := List.eq_nil_of_length_eq_zero (by omega)
    rw [zlenF_nil, zlenF_nil]
  | f + 1, 0, l, _, hg => by
    obtain rfl : l = [] := List.eq_nil_of_length_eq_zero (by omega)
    rw [zlenF_nil, zlenF_nil]
  | f + 1, g + 1, l, hf, hg => by
    by_cases hl : l = []
    · subst hl; rw [zlenF_nil, zlenF_nil]
    · have hd := drop_lt l hl
      simp only [zlenF]
      rw [zlenF_more f g _ (by omega) (by omega)]
theorem zlen_nil : zlen [] = 0 := rfl
theorem zlen_wide (l : List UInt8) (h : ofL ((Lib.decodeL l).1 : Int) ≠ 0) : zlen l = 0 := by
  unfold zlen
  cases l.length with
  | zero => rfl
  | succ n => simp [zlenF, h]
theorem zlen_zero (l : List UInt8) (hl : l ≠ []) (h : ofL ((Lib.decodeL l).1 : Int) = 0) : zlen l = (Lib.decodeL l).2 + zlen (l.drop (Lib.decodeL l).2) := by
  have hd := drop_lt l hl
  obtain ⟨b, t, rfl⟩ : ∃ b t, l = b :: t := by cases l <;> simp_all
  show zlenF (t.length + 1) _ = _
  simp only [zlenF, zlen]
  rw [if_neg (by simp [h]), zlenF_more t.length _ _ (by simp at hd ⊢; omega) (Nat.le_refl _)]
theorem zlen_le_aux : ∀ (n : Nat) (l : List UInt8), l.length ≤ n → zlen l ≤ l.length
  | 0, l, h => by
    obtain rfl : l = [] := List.eq_nil_of_length_eq_zero (by omega)
    simp [zlen_nil]
  | n + 1, l, h => by
    by_cases hl : l = []
    · subst hl; simp [zlen_nil]
    · by_cases hz : ofL ((Lib.decodeL l).1 : Int) = 0
      · have hd := drop_lt l hl
        have hle := Lib.decodeL_le l hl
        have := zlen_le_aux n (l.drop (Lib.decodeL l).2) (by omega)
        rw [List.length_drop] at this
        rw [zlen_zero l hl hz]
        omega
      · rw [zlen_wide l hz]; omega
theorem zlen_le (l : List UInt8) : zlen l ≤ l.length := zlen_le_aux _ _ (Nat.le_refl _)
theorem drop_take_dec (l : List UInt8) (n z : Nat) : (l.take (n + z)).drop n = (l.drop n).take z := by
  rw [List.drop_take, Nat.add_sub_cancel_left]
/-- The signs of width 0 with which l begins are, alone, such signs. -/
theorem zlen_take_aux : ∀ (n : Nat) (l : List UInt8), l.length ≤ n → zlen (l.take (zlen l)) = zlen l
  | 0, l, h => by
    obtain rfl : l = [] := List.eq_nil_of_length_eq_zero (by omega)
    simp [zlen_nil]
  | n + 1, l, h => by
    by_cases hl : l = []
    · subst hl; simp [zlen_nil]
    · by_cases hz : ofL ((Lib.decodeL l).1 : Int) = 0
      · have hd := drop_lt l hl
        have hw := Lib.decodeL_width l
        have hle := Lib.decodeL_le l hl
        have e := zlen_zero l hl hz
        have ih := zlen_take_aux n (l.drop (Lib.decodeL l).2) (by omega)
        have hdec : Lib.decodeL (l.take (zlen l)) = Lib.decodeL l := take_dec l _ (by omega)
        have hne : l.take (zlen l) ≠ [] := by
          intro h0
          have h2 := congrArg List.length h0
          rw [List.length_take, List.length_nil] at h2
          have := List.length_pos_iff.2 hl
          omega
        rw [zlen_zero _ hne (by rw [hdec]; exact hz), hdec]
        conv => lhs; rw [e]
        rw [drop_take_dec, ih, ← e]
      · rw [zlen_wide l hz]; simp [zlen_nil]
theorem zlen_take (l : List UInt8) : zlen (l.take (zlen l)) = zlen l := zlen_take_aux _ _ (Nat.le_refl _)
/-- How many bytes the first cluster of l has. -/
def clen (l : List UInt8) : Nat := (Lib.decodeL l).2 + zlen (l.drop (Lib.decodeL l).2)
theorem clen_pos (l : List UInt8) : 0 < clen l := by
  have hw := Lib.decodeL_width l
  unfold clen; omega
theorem clen_le (l : List UInt8) (hl : l ≠ []) : clen l ≤ l.length := by
  have hle := Lib.decodeL_le l hl
  have := zlen_le (l.drop (Lib.decodeL l).2)
  rw [List.length_drop] at this
  unfold clen; omega
def cutF : Nat → List UInt8 → List (List UInt8)
  | 0, _ => []
  | f + 1, l => if l = [] then [] else l.take (clen l) :: cutF f (l.drop (clen l))
/-- The clusters of a text. -/
def cutL (l : List UInt8) : List (List UInt8) := cutF l.length l
theorem cutF_nil (f : Nat) : cutF f [] = [] := by cases f <;> simp [cutF]
theorem drop_clen_lt (l : List UInt8) (hl : l ≠ []) : (l.drop (clen l)).length < l.length := by
  have hw := clen_pos l
  have h0 : 0 < l.length := List.length_pos_iff.2 hl
  rw [List.length_drop]; omega
theorem cutF_more : ∀ (f g : Nat) (l : List UInt8), l.length ≤ f → l.length ≤ g → cutF f l = cutF g l
  | 0, g, l, hf, _ => by
    obtain rfl : l = [] := List.eq_nil_of_length_eq_zero (by omega)
    rw [cutF_nil, cutF_nil]
  | f + 1, 0, l, _, hg => by
    obtain rfl : l = [] := List.eq_nil_of_length_eq_zero (by omega)
    rw [cutF_nil, cutF_nil]
  | f + 1, g + 1, l, hf, hg => by
    by_cases hl : l = []
    · subst hl; rw [cutF_nil, cutF_nil]
    · have hd := drop_clen_lt l hl
      simp only [cutF, if_neg hl]
      rw [cutF_more f g _ (by omega) (by omega)]
theorem cutL_nil : cutL [] = [] := rfl
theorem cutL_step (l : List UInt8) (hl : l ≠ []) : cutL l = l.take (clen l) :: cutL (l.drop (clen l)) := by
  have hd := drop_clen_lt l hl
  obtain ⟨b, t, rfl⟩ : ∃ b t, l = b :: t := by cases l <;> simp_all
  show cutF (t.length + 1) _ = _
  simp only [cutF, if_neg hl, cutL]
  rw [cutF_more t.length _ _ (by simp at hd ⊢; omega) (Nat.le_refl _)]
/-- The clusters of cur and what is behind it, where cur is the beginning of one. -/
def cutFrom (cur l : List UInt8) : List (List UInt8) := (cur ++ l.take (zlen l)) :: cutL (l.drop (zlen l))
theorem cut_induct {P : List UInt8 → Prop} (h0 : P []) (h1 : ∀ l, l ≠ [] → P (l.drop (clen l)) → P l) (l : List UInt8) : P l := by
  have : ∀ (n : Nat) (l : List UInt8), l.length ≤ n → P l := by
    intro n
    induction n with
    | zero => intro l h; obtain rfl : l = [] := List.eq_nil_of_length_eq_zero (by omega); exact h0
    | succ n ih =>
      intro l h
      by_cases hl : l = []
      · subst hl; exact h0
      · have hd := drop_clen_lt l hl
        exact h1 l hl (ih _ (by omega))
  exact this _ l (Nat.le_refl _)
theorem cutL_flatten (l : List UInt8) : (cutL l).flatten = l := by
  induction l using cut_induct with
  | h0 => rfl
  | h1 l hl ih => rw [cutL_step l hl, List.flatten_cons, ih, List.take_append_drop]
/-- A cluster, cut again, is itself. -/
theorem cut_take (l : List UInt8) (hl : l ≠ []) : cutL (l.take (clen l)) = [l.take (clen l)] := by
  have hw := Lib.decodeL_width l
  have hcl := clen_le l hl
  have hdec : Lib.decodeL (l.take (clen l)) = Lib.decodeL l := take_dec l _ (by unfold clen; omega)
  have hne : l.take (clen l) ≠ [] := by
    intro h0
    have h2 := congrArg List.length h0
    rw [List.length_take, List.length_nil] at h2
    have := clen_pos l
    have := List.length_pos_iff.2 hl
    omega
  have hc : clen (l.take (clen l)) = (l.take (clen l)).length := by
    show (Lib.decodeL (l.take (clen l))).2 + zlen ((l.take (clen l)).drop (Lib.decodeL (l.take (clen l))).2) = _
    rw [hdec, show clen l = (Lib.decodeL l).2 + zlen (l.drop (Lib.decodeL l).2) from rfl, drop_take_dec, zlen_take, List.length_take]
    unfold clen at hcl
    omega
  rw [cutL_step _ hne, hc, List.take_length, List.drop_length, cutL_nil]
theorem cut_mem (l : List UInt8) : ∀ c ∈ cutL l, c ≠ [] ∧ cutL c = [c] ∧ c.length ≤ l.length := by
  induction l using cut_induct with
  | h0 => intro c hc; simp [cutL_nil] at hc
  | h1 l hl ih =>
    intro c hc
    rw [cutL_step l hl, List.mem_cons] at hc
    rcases hc with rfl | hc
    · refine ⟨?_, cut_take l hl, by simp; omega⟩
      intro h0
      have h2 := congrArg List.length h0
      rw [List.length_take, List.length_nil] at h2
      have := clen_pos l
      have := List.length_pos_iff.2 hl
      omega
    · obtain ⟨h1, h2, h3⟩ := ih c hc
      have hd := drop_clen_lt l hl
      exact ⟨h1, h2, by omega⟩
theorem enc_ne (r : Nat) (t : List UInt8) : Lib.encodeRune (r : Int) ++ t ≠ [] := by
  have hl := Lib.runeCells_le (r : Int)
  rw [Lib.runeCells_length] at hl
  intro h0
  have := congrArg List.length h0
  simp at this
  simp [this.1] at hl
/-- How many columns a cluster takes; what is shown for it. -/
def wideL (c : List UInt8) : Nat := if c = [] then 0 else max 1 (ofL ((Lib.decodeL c).1 : Int))
def showL (c : List UInt8) : List UInt8 := if c = [] then [] else if ofL ((Lib.decodeL c).1 : Int) = 0 ∨ ctlL ((Lib.decodeL c).1 : Int) = true then [239, 191, 189] else cleanL c
/-- Where clusters begin, one behind the other from a on, and where they end. -/
def bnd : Nat → List (List UInt8) → List Nat
  | a, [] => [a]
  | a, c :: cs => a :: bnd (a + c.length) cs
def withAt : Nat → List (List UInt8) → List (Nat × List UInt8)
  | _, [] => []
  | a, c :: cs => (a, c) :: withAt (a + c.length) cs
/-- The clusters of a text, each with where it begins; where they begin. -/
def eachL (l : List UInt8) : List (Nat × List UInt8) := withAt 0 (cutL l)
def boundsL (l : List UInt8) : List Nat := bnd 0 (cutL l)
/-- How many columns texts take. -/
def wides (cs : List (List UInt8)) : Nat := (cs.map wideL).sum
def sumL (l : List UInt8) : Nat := wides (cutL l)
end
section
open Go
/-- What a line holds for a sign. -/
def plR (r : Nat) : List Nat := if r = 9 ∨ r = 10 ∨ r = 13 then [32] else if ctlL (r : Int) = true then [] else [r]
/-- A text as a line may hold it. -/
def plainL (l : List UInt8) : List UInt8 := encL ((runes l).flatMap plR)
def Fine (r : Nat) : Prop := Valid r ∧ ctlL (r : Int) = false
theorem plR_fine (r : Nat) (h : Valid r) : ∀ x ∈ plR r, Fine x := by
  intro x hx
  unfold plR at hx
  split at hx
  · simp at hx; subst hx; exact ⟨.inl (by omega), by decide⟩
  · split at hx
    · simp at hx
    · rename_i h2
      simp at hx; subst hx
      exact ⟨h, by simpa using h2⟩
theorem plR_of (r : Nat) (h : Fine r) : plR r = [r] := by
  have h2 := h.2
  unfold plR
  rw [if_neg, if_neg (by simp [h2])]
  rintro (rfl | rfl | rfl) <;> exact absurd h2 (by decide)
/-- Texts that a line may hold. -/
def PlainP (l : List UInt8) : Prop := ∃ rs, (∀ r ∈ rs, Fine r) ∧ l = encL rs
theorem PlainP.nil : PlainP [] := ⟨[], by simp, rfl⟩
theorem PlainP.append {a b : List UInt8} (ha : PlainP a) (hb : PlainP b) : PlainP (a ++ b) := by
  obtain ⟨r, h1, rfl⟩ := ha
  obtain ⟨s, h2, rfl⟩ := hb
  exact ⟨r ++ s, fun x hx => (List.mem_append.1 hx).elim (h1 x) (h2 x), (encL_append r s).symm⟩
theorem plain_P (l : List UInt8) : PlainP (plainL l) :=
  ⟨_, fun x hx => by
    obtain ⟨r, hr, hx⟩ := List.mem_flatMap.1 hx
    exact plR_fine r (runes_valid l r hr) x hx, rfl⟩
theorem flatMap_fine (rs : List Nat) (h : ∀ r ∈ rs, Fine r) : rs.flatMap plR = rs := by
  induction rs with
  | nil => rfl
  | cons r t ih => rw [List.flatMap_cons, plR_of r (h r (by simp)), ih (fun x hx => h x (by simp [hx]))]; rfl
theorem PlainP.plain {l : List UInt8} (h : PlainP l) : plainL l = l := by
  obtain ⟨rs, h1, rfl⟩ := h
  unfold plainL
  rw [runes_enc rs (fun r hr => (h1 r hr).1), flatMap_fine rs h1]
theorem zlen_enc : ∀ rs : List Nat, (∀ r ∈ rs, Valid r) → zlen (encL rs) = (encL (rs.takeWhile fun r => decide (ofL (r : Int) = 0))).length
  | [], _ => rfl
  | r :: rs, h => by
    have hd := dec_enc r (h r (by simp)) (encL rs)
    rw [encL_cons]
    by_cases hz : ofL (r : Int) = 0
    · rw [zlen_zero _ (enc_ne _ _) (by rw [hd]; exact hz), hd, List.takeWhile_cons_of_pos (by simpa using hz), encL_cons, List.length_append]
      simp only [List.drop_left]
      rw [zlen_enc rs (fun x hx => h x (by simp [hx]))]
    · rw [zlen_wide _ (by rw [hd]; exact hz), List.takeWhile_cons_of_neg (by simpa using hz)]
      rfl
theorem PlainP.first {l : List UInt8} (h : PlainP l) (hl : l ≠ []) : PlainP (l.take (clen l)) ∧ PlainP (l.drop (clen l)) := by
  obtain ⟨rs, h1, rfl⟩ := h
  obtain ⟨r, t, rfl⟩ : ∃ r t, rs = r :: t := by
    cases rs with
    | nil => exact absurd rfl hl
    | cons r t => exact ⟨r, t, rfl⟩
  have hd := dec_enc r (h1 r (by simp)).1 (encL t)
  have hz := zlen_enc t (fun x hx => (h1 x (by simp [hx])).1)
  have hc : clen (encL (r :: t)) = (encL (r :: t.takeWhile fun r => decide (ofL (r : Int) = 0))).length := by
    unfold clen
    rw [encL_cons, hd, encL_cons, List.length_append]
    simp only [List.drop_left]
    rw [hz]
  have he : encL (r :: t) = encL (r :: t.takeWhile fun r => decide (ofL (r : Int) = 0)) ++ encL (t.dropWhile fun r => decide (ofL (r : Int) = 0)) := by
    rw [← encL_append, List.cons_append, List.takeWhile_append_dropWhile]
  refine ⟨⟨r :: t.takeWhile fun r => decide (ofL (r : Int) = 0), fun x hx => ?_, ?_⟩, ⟨t.dropWhile fun r => decide (ofL (r : Int) = 0), fun x hx => ?_, ?_⟩⟩
  · rcases List.mem_cons.1 hx with rfl | hx
    · exact h1 _ (by simp)
    · exact h1 x (by simp [(List.takeWhile_sublist _).subset hx])
  · rw [hc]
    conv => lhs; rw [he]
    rw [List.take_left]
  · exact h1 x (by simp [(List.dropWhile_sublist _).subset hx])
  · rw [hc]
    conv => lhs; rw [he]
    rw [List.drop_left]
theorem cut_P (l : List UInt8) : PlainP l → ∀ c ∈ cutL l, PlainP c := by
  induction l using cut_induct with
  | h0 => intro _ c hc; simp [cutL_nil] at hc
  | h1 l hl ih =>
    intro h c hc
    obtain ⟨h1, h2⟩ := h.first hl
    rw [cutL_step l hl, List.mem_cons] at hc
    rcases hc with rfl | hc
    · exact h1
    · exact ih h2 c hc
theorem flat_P (cs : List (List UInt8)) (h : ∀ c ∈ cs, PlainP c) : PlainP cs.flatten := by
  induction cs with
  | nil => exact PlainP.nil
  | cons c t ih => rw [List.flatten_cons]; exact (h c (by simp)).append (ih fun x hx => h x (by simp [hx]))
/-- Behind a cluster a sign of some width begins. -/
def Wid (y : List UInt8) : Prop := y = [] ∨ ofL ((Lib.decodeL y).1 : Int) ≠ 0
/-- Where cluster number k begins. -/
def pos (cs : List (List UInt8)) (k : Nat) : Nat := (cs.take k).flatten.length
theorem pos_zero (cs : List (List UInt8)) : pos cs 0 = 0 := rfl
theorem pos_all (cs : List (List UInt8)) (k : Nat) (h : cs.length ≤ k) : pos cs k = cs.flatten.length := by
  unfold pos; rw [List.take_of_length_le h]
theorem pos_cons (c : List UInt8) (cs : List (List UInt8)) (k : Nat) : pos (c :: cs) (k + 1) = c.length + pos cs k := by
  simp [pos]
theorem pos_split (cs : List (List UInt8)) (k : Nat) : cs.flatten = (cs.take k).flatten ++ (cs.drop k).flatten := by
  rw [← List.flatten_append, List.take_append_drop]
theorem take_pos (cs : List (List UInt8)) (k : Nat) : cs.flatten.take (pos cs k) = (cs.take k).flatten := by
  conv => lhs; rw [pos_split cs k]
  exact List.take_left
theorem drop_pos (cs : List (List UInt8)) (k : Nat) : cs.flatten.drop (pos cs k) = (cs.drop k).flatten := by
  conv => lhs; rw [pos_split cs k]
  exact List.drop_left
theorem pos_succ (cs : List (List UInt8)) (k : Nat) (h : k < cs.length) : pos cs (k + 1) = pos cs k + (cs.getD k []).length := by
  unfold pos
  rw [List.take_succ_eq_append_getElem h, List.flatten_append, List.length_append]
  simp [List.getD, h]
theorem pos_le_succ (cs : List (List UInt8)) (k : Nat) : pos cs k ≤ pos cs (k + 1) := by
  by_cases h : k < cs.length
  · rw [pos_succ cs k h]; omega
  · rw [pos_all cs k (by omega), pos_all cs (k + 1) (by omega)]; exact Nat.le_refl _
theorem pos_mono (cs : List (List UInt8)) {j k : Nat} (h : j ≤ k) : pos cs j ≤ pos cs k := by
  induction h with
  | refl => exact Nat.le_refl _
  | step _ ih => exact Nat.le_trans ih (pos_le_succ cs _)
theorem pos_le (cs : List (List UInt8)) (k : Nat) : pos cs k ≤ cs.flatten.length := by
  rw [← pos_all cs (max k cs.length) (by omega)]
  exact pos_mono cs (by omega)
/-- No cluster is empty. -/
def Full (cs : List (List UInt8)) : Prop := ∀ c ∈ cs, c ≠ []
theorem cut_full (l : List UInt8) : Full (cutL l) := fun c hc => (cut_mem l c hc).1
theorem pos_lt_succ {cs : List (List UInt8)} (hf : Full cs) {k : Nat} (h : k < cs.length) : pos cs k < pos cs (k + 1) := by
  rw [pos_succ cs k h]
  have : (cs.getD k []) ≠ [] := by
    have e : cs.getD k [] = cs[k] := by simp [List.getD, h]
    rw [e]
    exact hf _ (List.getElem_mem h)
  have := List.length_pos_iff.2 this
  omega
theorem pos_lt {cs : List (List UInt8)} (hf : Full cs) {j k : Nat} (h : j < k) (hk : k ≤ cs.length) : pos cs j < pos cs k :=
  Nat.lt_of_lt_of_le (pos_lt_succ hf (by omega)) (pos_mono cs h)
/-- The number of the greatest bound that is not above n (0, if none is). -/
def bk : List (List UInt8) → Int → Nat
  | [], _ => 0
  | c :: cs, n => if (c.length : Int) ≤ n then bk cs (n - c.length) + 1 else 0
/-- The number of the least bound that is not below n (that of the end, if none is). -/
def ok : List (List UInt8) → Int → Nat
  | [], _ => 0
  | c :: cs, n => if n ≤ 0 then 0 else ok cs (n - c.length) + 1
theorem bk_le : ∀ (cs : List (List UInt8)) (n : Int), bk cs n ≤ cs.length
  | [], _ => Nat.le_refl _
  | c :: cs, n => by
    unfold bk
    split
    · have := bk_le cs (n - c.length); simp; omega
    · omega
theorem ok_le : ∀ (cs : List (List UInt8)) (n : Int), ok cs n ≤ cs.length
  | [], _ => Nat.le_refl _
  | c :: cs, n => by
    unfold ok
    split
    · omega
    · have := ok_le cs (n - c.length); simp; omega
theorem bk_spec : ∀ (cs : List (List UInt8)) (n : Int), (bk cs n = 0 ∨ (pos cs (bk cs n) : Int) ≤ n) ∧ (bk cs n < cs.length → n < (pos cs (bk cs n + 1) : Int))
  | [], _ => ⟨.inl rfl, fun h => absurd h (by simp [bk])⟩
  | c :: cs, n => by
    obtain ⟨h1, h2⟩ := bk_spec cs (n - c.length)
    unfold bk
    split
    · rename_i h
      refine ⟨.inr ?_, fun h3 => ?_⟩
      · rw [pos_cons]
        rcases h1 with h1 | h1
        · rw [h1, pos_zero]; omega
        · omega
      · rw [pos_cons]
        have := h2 (by simpa using h3)
        omega
    · rename_i h
      refine ⟨.inl rfl, fun _ => ?_⟩
      rw [pos_cons, pos_zero]
      omega
theorem ok_spec : ∀ (cs : List (List UInt8)) (n : Int), (ok cs n = cs.length ∨ n ≤ (pos cs (ok cs n) : Int)) ∧ (0 < ok cs n → (pos cs (ok cs n - 1) : Int) < n)
  | [], _ => ⟨.inl rfl, fun h => absurd h (by simp [ok])⟩
  | c :: cs, n => by
    obtain ⟨h1, h2⟩ := ok_spec cs (n - c.length)
    unfold ok
    split
    · rename_i h
      exact ⟨.inr (by rw [pos_zero]; omega), fun h3 => absurd h3 (by simp)⟩
    · rename_i h
      refine ⟨?_, fun _ => ?_⟩
      · rcases h1 with h1 | h1
        · exact .inl (by simp [h1])
        · exact .inr (by rw [pos_cons]; omega)
      · by_cases h0 : 0 < ok cs (n - c.length)
        · have := h2 h0
          obtain ⟨m, hm⟩ : ∃ m, ok cs (n - c.length) = m + 1 := ⟨ok cs (n - c.length) - 1, by omega⟩
          rw [hm] at this ⊢
          simp only [Nat.add_sub_cancel] at this ⊢
          rw [pos_cons]; omega
        · have : ok cs (n - c.length) = 0 := by omega
          rw [this]
          simp only [Nat.zero_add, Nat.sub_self, pos_zero]
          omega
theorem bk_uniq {cs : List (List UInt8)} {n : Int} {j : Nat} (h1 : j ≤ cs.length) (h2 : j = 0 ∨ (pos cs j : Int) ≤ n) (h3 : j < cs.length → n < (pos cs (j + 1) : Int)) : bk cs n = j := by
  obtain ⟨a, b⟩ := bk_spec cs n
  have c := bk_le cs n
  rcases Nat.lt_trichotomy (bk cs n) j with h | h | h
  · have := b (by omega)
    have m := pos_mono cs (show bk cs n + 1 ≤ j by omega)
    rcases h2 with h2 | h2 <;> omega
  · exact h
  · have := h3 (by omega)
    have m := pos_mono cs (show j + 1 ≤ bk cs n by omega)
    rcases a with a | a <;> omega
theorem ok_uniq {cs : List (List UInt8)} {n : Int} {j : Nat} (h1 : j ≤ cs.length) (h2 : j = cs.length ∨ n ≤ (pos cs j : Int)) (h3 : 0 < j → (pos cs (j - 1) : Int) < n) : ok cs n = j := by
  obtain ⟨a, b⟩ := ok_spec cs n
  have c := ok_le cs n
  rcases Nat.lt_trichotomy (ok cs n) j with h | h | h
  · have := h3 (by omega)
    have m := pos_mono cs (show ok cs n ≤ j - 1 by omega)
    rcases a with a | a <;> omega
  · exact h
  · have := b (by omega)
    have m := pos_mono cs (show j ≤ ok cs n - 1 by omega)
    rcases h2 with h2 | h2 <;> omega
theorem bk_pos {cs : List (List UInt8)} (hf : Full cs) {k : Nat} (hk : k ≤ cs.length) : bk cs (pos cs k : Int) = k :=
  bk_uniq hk (.inr (Int.le_refl _)) fun h => by have := pos_lt_succ hf h; omega
theorem ok_pos {cs : List (List UInt8)} (hf : Full cs) {k : Nat} (hk : k ≤ cs.length) : ok cs (pos cs k : Int) = k :=
  ok_uniq hk (.inr (Int.le_refl _)) fun h => by have := pos_lt hf (show k - 1 < k by omega) hk; omega
theorem P_take {l : List UInt8} (h : PlainP l) (k : Nat) : PlainP ((cutL l).take k).flatten := flat_P _ fun c hc => cut_P l h c (List.mem_of_mem_take hc)
theorem P_drop {l : List UInt8} (h : PlainP l) (k : Nat) : PlainP ((cutL l).drop k).flatten := flat_P _ fun c hc => cut_P l h c (List.mem_of_mem_drop hc)
end
section
open Go
/-- Back to a bound, on to a bound. -/
def backL (l : List UInt8) (n : Int) : Nat := pos (cutL l) (bk (cutL l) n)
def onL (l : List UInt8) (n : Int) : Nat := pos (cutL l) (ok (cutL l) n)
theorem backL_bound (l : List UInt8) (n : Int) (h : 0 ≤ n) : (backL l n : Int) ≤ n := by
  rcases (bk_spec (cutL l) n).1 with h1 | h1
  · unfold backL; rw [h1, pos_zero]; omega
  · exact h1
/-- A bound of a text. -/
def IsB (l : List UInt8) (n : Nat) : Prop := ∃ k, k ≤ (cutL l).length ∧ n = pos (cutL l) k
theorem isB_back (l : List UInt8) (n : Int) : IsB l (backL l n) := ⟨_, bk_le _ _, rfl⟩
theorem isB_on (l : List UInt8) (n : Int) : IsB l (onL l n) := ⟨_, ok_le _ _, rfl⟩
theorem isB_zero (l : List UInt8) : IsB l 0 := ⟨0, Nat.zero_le _, rfl⟩
theorem isB_all (l : List UInt8) : IsB l l.length := ⟨_, Nat.le_refl _, by rw [pos_all _ _ (Nat.le_refl _), cutL_flatten]⟩
theorem IsB.le {l : List UInt8} {n : Nat} (h : IsB l n) : n ≤ l.length := by
  obtain ⟨k, _, rfl⟩ := h
  have := pos_le (cutL l) k
  rwa [cutL_flatten] at this
theorem IsB.back {l : List UInt8} {n : Nat} (h : IsB l n) : backL l (n : Int) = n := by
  obtain ⟨k, hk, rfl⟩ := h
  unfold backL
  rw [bk_pos (cut_full l) hk]
theorem IsB.on {l : List UInt8} {n : Nat} (h : IsB l n) : onL l (n : Int) = n := by
  obtain ⟨k, hk, rfl⟩ := h
  unfold onL
  rw [ok_pos (cut_full l) hk]
theorem IsB.take_P {l : List UInt8} {n : Nat} (h : IsB l n) (hp : PlainP l) : PlainP (l.take n) := by
  obtain ⟨k, _, rfl⟩ := h
  have := take_pos (cutL l) k
  rw [cutL_flatten] at this
  rw [this]; exact P_take hp k
theorem IsB.drop_P {l : List UInt8} {n : Nat} (h : IsB l n) (hp : PlainP l) : PlainP (l.drop n) := by
  obtain ⟨k, _, rfl⟩ := h
  have := drop_pos (cutL l) k
  rw [cutL_flatten] at this
  rw [this]; exact P_drop hp k
/-- The line of a text, and the cursor's place in it. -/
def mS (l : List UInt8) : List UInt8 := (plainL l).take (backL (plainL l) 600)
def mA (l : List UInt8) (n : Int) : Nat := backL (mS l) n
theorem mS_P (l : List UInt8) : PlainP (mS l) := (isB_back _ _).take_P (plain_P l)
theorem mS_len (l : List UInt8) : (mS l).length ≤ 600 := by
  have := backL_bound (plainL l) 600 (by omega)
  unfold mS
  rw [List.length_take]
  omega
/-- What it is to be a right line. -/
def Rt (l : List UInt8) (n : Nat) : Prop := PlainP l ∧ l.length ≤ 600 ∧ IsB l n
theorem make_rt (l : List UInt8) (n : Int) : Rt (mS l) (mA l n) := ⟨mS_P l, mS_len l, isB_back _ _⟩
/-- More in a line. -/
def insS (l : List UInt8) (a : Nat) (p : List UInt8) : List UInt8 := l.take a ++ p ++ l.drop a
def insA (l : List UInt8) (a : Nat) (p : List UInt8) : Nat := onL (insS l a p) ((a + p.length : Nat) : Int)
theorem insS_length (l : List UInt8) (a : Nat) (p : List UInt8) (h : a ≤ l.length) : (insS l a p).length = l.length + p.length := by
  unfold insS
  simp only [List.length_append, List.length_take, List.length_drop]
  omega
theorem ins_rt {l : List UInt8} {a : Nat} {p : List UInt8} (h : Rt l a) (hp : PlainP p) (hl : l.length + p.length ≤ 600) : Rt (insS l a p) (insA l a p) :=
  ⟨((h.2.2.take_P h.1).append hp).append (h.2.2.drop_P h.1), by rw [insS_length _ _ _ h.2.2.le]; exact hl, isB_on _ _⟩
/-- Less in a line. -/
def cutS (l : List UInt8) (f t : Nat) : List UInt8 := l.take f ++ l.drop t
def cutAt (a f t : Nat) : Nat := if f < a then max f (a - (t - f)) else a
def cutA (l : List UInt8) (a f t : Nat) : Nat := backL (cutS l f t) (cutAt a f t : Int)
def goneS (l : List UInt8) (f t : Nat) : List UInt8 := (l.drop f).take (t - f)
theorem cutS_length (l : List UInt8) (f t : Nat) (h : f ≤ t) (ht : t ≤ l.length) : (cutS l f t).length + (t - f) = l.length := by
  unfold cutS
  simp only [List.length_append, List.length_take, List.length_drop]
  omega
theorem cut_rt {l : List UInt8} {a f t : Nat} (h : Rt l a) (hf : IsB l f) (ht : IsB l t) (hft : f < t) : Rt (cutS l f t) (cutA l a f t) :=
  ⟨(hf.take_P h.1).append (ht.drop_P h.1), by have := cutS_length l f t (by omega) ht.le; have := h.2.1; omega, isB_back _ _⟩
/-- What a cut leaves, and takes. -/
def cutR (m : List UInt8) (a : Nat) (f t : Nat) : List UInt8 × Nat × List UInt8 := if f < t then (cutS m f t, cutA m a f t, goneS m f t) else (m, a, [])
/-- Steps. -/
def prvL (l : List UInt8) (a : Nat) : Nat := backL l ((a : Int) - 1)
def nxtL (l : List UInt8) (a : Nat) : Nat := onL l ((a : Int) + 1)
/-- Is a cluster a word's? -/
def wordR (r : Int) : Bool := decide ((97 ≤ r ∧ r ≤ 122) ∨ (65 ≤ r ∧ r ≤ 90) ∨ (48 ≤ r ∧ r ≤ 57) ∨ r = 95 ∨ 128 ≤ r)
def wordL (c : List UInt8) : Bool := wordR ((nextL c).1 : Int)
/-- How many clusters there are up to the end of the first word. -/
def skipN (w : Bool) : List (List UInt8) → Nat
  | [] => 0
  | c :: cs => if wordL c = w then skipN w cs + 1 else 0
def thrK (cs : List (List UInt8)) : Nat := skipN false cs + skipN true (cs.drop (skipN false cs))
def thrL (cs : List (List UInt8)) : Nat := pos cs (thrK cs)
/-- Words' ends. -/
def wlL (l : List UInt8) (a : Nat) : Nat := a - thrL (cutL (l.take a)).reverse
def wrL (l : List UInt8) (a : Nat) : Nat := a + thrL (cutL (l.drop a))
/-- Two clusters in each other's places: the bounds of the two. -/
def swS (l : List UInt8) (f m t : Nat) : List UInt8 := l.take f ++ goneS l m t ++ goneS l f m ++ l.drop t
end
section
open Go
/-- The place between the two. -/
def swMid (m : List UInt8) (a : Nat) : Nat := if a = m.length then prvL m a else a
/-- What Swap answers: the text, the place, whether. -/
def swapR (m : List UInt8) (a : Nat) : List UInt8 × Nat × Bool :=
  if swMid m a = 0 then (m, a, false)
  else (swS m (prvL m (swMid m a)) (swMid m a) (nxtL m (swMid m a)), onL (swS m (prvL m (swMid m a)) (swMid m a) (nxtL m (swMid m a))) (nxtL m (swMid m a) : Int), true)
/-- The two by their numbers: k of the clusters are ahead of the cursor. -/
def swIdx (cs : List (List UInt8)) (k : Nat) : Nat := if k = cs.length then k - 1 else k
/-- The clusters, two of them in each other's places. -/
def swL (cs : List (List UInt8)) (j : Nat) : List (List UInt8) := (cs.set (j - 1) (cs.getD j [])).set j (cs.getD (j - 1) [])
end
end Go.Proofs.YteafcaambnfdoaaGreatDoor
