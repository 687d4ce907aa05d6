/-
  Layer 7 and what it stands on, part 4 (Plain RefMath More CutMath TextMath).
-/
import Derived.Lib.TrimUEq
import Derived.Lib.RuneBytes
import Derived.Lib.MapLaws
import Derived.Lib.QuoteLoop
namespace Go.Proofs.YteafcaambnfdoaaDoor
section
open Go
/-- A list of bytes as numbers. -/
def nums (l : List UInt8) : List Int := l.map fun b => (b.toNat : Int)
theorem nums_length (l : List UInt8) : (nums l).length = l.length := by simp [nums]
theorem nums_getD (l : List UInt8) (i : Nat) : (nums l).getD i 0 = ((l.getD i 0).toNat : Int) := by
  simp only [nums, List.getD, List.getElem?_map]
  cases l[i]? <;> simp
/-- The first sign of a list of bytes, and how many bytes it has. -/
def nextL (l : List UInt8) : Nat × Nat := if l = [] then (0, 0) else Lib.decodeL l
def runesF : Nat → List UInt8 → List Nat
  | 0, _ => []
  | f + 1, l => if l = [] then [] else (Lib.decodeL l).1 :: runesF f (l.drop (Lib.decodeL l).2)
/-- All signs of a list of bytes. -/
def runes (l : List UInt8) : List Nat := runesF l.length l
theorem runesF_nil (f : Nat) : runesF f [] = [] := by cases f <;> simp [runesF]
theorem runesF_more : ∀ (f g : Nat) (l : List UInt8), l.length ≤ f → l.length ≤ g → runesF f l = runesF g l
  | 0, g, l, hf, _ => by
    obtain rfl : l = [] := List.eq_nil_of_length_eq_zero (by omega)
    rw [runesF_nil, runesF_nil]
  | f + 1, 0, l, _, hg => by
    obtain rfl : l = [] := List.eq_nil_of_length_eq_zero (by omega)
    rw [runesF_nil, runesF_nil]
  | f + 1, g + 1, l, hf, hg => by
    by_cases hl : l = []
    · subst hl; rw [runesF_nil, runesF_nil]
    · have hw := Lib.decodeL_width l
      have h0 : 0 < l.length := by cases l <;> simp_all
      have hd : (l.drop (Lib.decodeL l).2).length < l.length := by rw [List.length_drop]; omega
      simp only [runesF, if_neg hl]
      rw [runesF_more f g _ (by omega) (by omega)]
theorem runes_nil : runes [] = [] := rfl
theorem runes_step (l : List UInt8) (hl : l ≠ []) : runes l = (Lib.decodeL l).1 :: runes (l.drop (Lib.decodeL l).2) := by
  have hw := Lib.decodeL_width l
  obtain ⟨b, t, rfl⟩ : ∃ b t, l = b :: t := by cases l <;> simp_all
  show runesF (t.length + 1) _ = _
  simp only [runesF, if_neg hl, runes]
  rw [runesF_more t.length _ _ (by rw [List.length_drop]; simp; omega) (Nat.le_refl _)]
/-- The bytes of all signs. -/
def cleanL (l : List UInt8) : List UInt8 := (runes l).flatMap fun (r : Nat) => Lib.encodeRune (r : Int)
/-- Can no bytes behind l change its first sign? By the tables of unicode/utf8. -/
def wholeL (l : List UInt8) : Bool :=
  decide (0 < l.length ∧ (Lib.firstT (l.getD 0 0).toNat % 8 ≤ l.length ∨
    (1 < l.length ∧ ((l.getD 1 0).toNat < Lib.accLo (Lib.firstT (l.getD 0 0).toNat / 16) ∨ Lib.accHi (Lib.firstT (l.getD 0 0).toNat / 16) < (l.getD 1 0).toNat)) ∨
    (2 < l.length ∧ ((l.getD 2 0).toNat < 128 ∨ 191 < (l.getD 2 0).toNat))))
def feedF : Nat → List UInt8 → List Nat × List UInt8
  | 0, l => ([], l)
  | f + 1, l => if wholeL l = true then ((Lib.decodeL l).1 :: (feedF f (l.drop (Lib.decodeL l).2)).1, (feedF f (l.drop (Lib.decodeL l).2)).2) else ([], l)
/-- What is told of bytes as long as what waits is whole, and what waits then. -/
def feedL (l : List UInt8) : List Nat × List UInt8 := feedF l.length l
/-- Is it a code point that is a sign? -/
def Valid (r : Nat) : Prop := r < 55296 ∨ (57343 < r ∧ r ≤ 1114111)
theorem decodeL_valid (l : List UInt8) : Valid (Lib.decodeL l).1 := by
  rw [Lib.decodeL_N]
  exact Lib.decodeN_valid _ _ _ _ _ (UInt8.toNat_lt _)
theorem runesF_valid : ∀ (f : Nat) (l : List UInt8), ∀ r ∈ runesF f l, Valid r
  | 0, _, r, h => by simp [runesF] at h
  | f + 1, l, r, h => by
    by_cases hl : l = []
    · simp [runesF, hl] at h
    · simp only [runesF, if_neg hl, List.mem_cons] at h
      rcases h with h | h
      · rw [h]; exact decodeL_valid l
      · exact runesF_valid f _ r h
theorem runes_valid (l : List UInt8) : ∀ r ∈ runes l, Valid r := runesF_valid _ _
theorem runesF_length : ∀ (f : Nat) (l : List UInt8), (runesF f l).length ≤ l.length
  | 0, _ => by simp [runesF]
  | f + 1, l => by
    by_cases hl : l = []
    · simp [runesF, hl]
    · have hw := Lib.decodeL_width l
      have h0 : 0 < l.length := List.length_pos_iff.2 hl
      have := runesF_length f (l.drop (Lib.decodeL l).2)
      rw [List.length_drop] at this
      simp only [runesF, if_neg hl, List.length_cons]
      omega
theorem runes_length (l : List UInt8) : (runes l).length ≤ l.length := runesF_length _ _
end
section
open Go
theorem getD_map_u8 (zs : List Int) (h : ∀ x ∈ zs, 0 ≤ x ∧ x < 256) (i : Nat) (hi : i < zs.length) : ((((zs.map fun (x : Int) => x.toNat.toUInt8).getD i 0).toNat : Nat) : Int) = zs.getD i 0 := by
  have hm := h zs[i] (List.getElem_mem hi)
  simp [List.getD, hi]
  omega
theorem enc_length (r : Int) : (Lib.encodeRune r).length = (Lib.encodeRuneZ r).length := by simp [Lib.encodeRune]
theorem enc_getD (r : Int) (i : Nat) (hi : i < (Lib.encodeRuneZ r).length) : ((((Lib.encodeRune r).getD i 0).toNat : Nat) : Int) = (Lib.encodeRuneZ r).getD i 0 := getD_map_u8 _ (Lib.encodeRuneZ_byte r) i hi
/-- Does l begin with the bytes p, and are these some? -/
def begL (l p : List UInt8) : Bool := decide (0 < p.length ∧ p.length ≤ l.length ∧ ∀ i, i < p.length → (l.getD i 0).toNat = (p.getD i 0).toNat)
/-- The bytes of a code point that is a sign; nothing of others. -/
def bytesL (r : Int) : List UInt8 := if r < 0 ∨ 1114111 < r ∨ (55296 ≤ r ∧ r ≤ 57343) then [] else Lib.encodeRune r
/-- The last six bits of the byte at k, or -1. -/
def lowL (l : List UInt8) (k : Nat) : Int := if k < l.length ∧ 128 ≤ (l.getD k 0).toNat ∧ (l.getD k 0).toNat ≤ 191 then ((l.getD k 0).toNat : Int) - 128 else -1
theorem lowL_bound (l : List UInt8) (k : Nat) : -1 ≤ lowL l k ∧ lowL l k ≤ 63 := by
  unfold lowL; split <;> omega
theorem bytesL_length (r : Int) : (bytesL r).length ≤ 4 := by
  unfold bytesL
  split
  · simp
  · rw [enc_length]; exact (Lib.encodeRuneZ_length r).2
/-- What it is to begin with the bytes of r, in numbers. -/
theorem beg_iff (l : List UInt8) (r : Int) : begL l (bytesL r) = true ↔
    ¬ (r < 0 ∨ 1114111 < r ∨ (55296 ≤ r ∧ r ≤ 57343)) ∧
    ((r ≤ 127 ∧ 1 ≤ l.length ∧ ((l.getD 0 0).toNat : Int) = r) ∨
     (128 ≤ r ∧ r ≤ 2047 ∧ 2 ≤ l.length ∧ ((l.getD 0 0).toNat : Int) = 192 + r / 64 ∧ ((l.getD 1 0).toNat : Int) = 128 + r % 64) ∨
     (2048 ≤ r ∧ r ≤ 65535 ∧ 3 ≤ l.length ∧ ((l.getD 0 0).toNat : Int) = 224 + r / 4096 ∧ ((l.getD 1 0).toNat : Int) = 128 + r / 64 % 64 ∧ ((l.getD 2 0).toNat : Int) = 128 + r % 64) ∨
     (65536 ≤ r ∧ 4 ≤ l.length ∧ ((l.getD 0 0).toNat : Int) = 240 + r / 262144 ∧ ((l.getD 1 0).toNat : Int) = 128 + r / 4096 % 64 ∧ ((l.getD 2 0).toNat : Int) = 128 + r / 64 % 64 ∧ ((l.getD 3 0).toNat : Int) = 128 + r % 64)) := by
  by_cases hv : r < 0 ∨ 1114111 < r ∨ (55296 ≤ r ∧ r ≤ 57343)
  · have e : bytesL r = [] := by simp only [bytesL]; rw [if_pos hv]
    rw [e]
    simp only [begL, decide_eq_true_eq]
    constructor
    · intro h; simp at h
    · intro h; exact absurd hv h.1
  · have e : bytesL r = Lib.encodeRune r := by simp only [bytesL]; rw [if_neg hv]
    rw [e]
    have hg := enc_getD r
    have hl := enc_length r
    simp only [begL, decide_eq_true_eq, hl]
    have key : (∀ i, i < (Lib.encodeRuneZ r).length → (l.getD i 0).toNat = ((Lib.encodeRune r).getD i 0).toNat) ↔ ∀ i, i < (Lib.encodeRuneZ r).length → ((l.getD i 0).toNat : Int) = (Lib.encodeRuneZ r).getD i 0 := by
      constructor
      · intro h i hi; rw [← hg i hi, h i hi]
      · intro h i hi
        have := h i hi
        rw [← hg i hi] at this
        omega
    rw [key]
    clear key hg hl e
    by_cases h1 : r ≤ 127
    · rw [Lib.encodeRuneZ_one (by omega) h1]
      simp only [List.length_cons, List.length_nil]
      constructor
      · rintro ⟨_, h2, h3⟩
        have := h3 0 (by decide)
        simp only [List.getD_cons_zero] at this
        exact ⟨hv, .inl ⟨h1, by omega, this⟩⟩
      · rintro ⟨_, h⟩
        refine ⟨by decide, by omega, fun i hi => ?_⟩
        obtain rfl : i = 0 := by omega
        simp only [List.getD_cons_zero]
        omega
    · by_cases h2 : r ≤ 2047
      · rw [Lib.encodeRuneZ_two (by omega) h2]
        simp only [List.length_cons, List.length_nil]
        constructor
        · rintro ⟨_, h3, h4⟩
          have q0 := h4 0 (by decide)
          have q1 := h4 1 (by decide)
          simp only [List.getD_cons_zero, List.getD_cons_succ] at q0 q1
          exact ⟨hv, .inr (.inl ⟨by omega, h2, by omega, q0, q1⟩)⟩
        · rintro ⟨_, h⟩
          refine ⟨by decide, by omega, fun i hi => ?_⟩
          have hi' : i = 0 ∨ i = 1 := by omega
          rcases hi' with rfl | rfl <;> simp only [List.getD_cons_zero, List.getD_cons_succ] <;> omega
      · by_cases h3 : r ≤ 65535
        · rw [Lib.encodeRuneZ_three (by omega)]
          simp only [List.length_cons, List.length_nil]
          constructor
          · rintro ⟨_, h4, h5⟩
            have q0 := h5 0 (by decide)
            have q1 := h5 1 (by decide)
            have q2 := h5 2 (by decide)
            simp only [List.getD_cons_zero, List.getD_cons_succ] at q0 q1 q2
            exact ⟨hv, .inr (.inr (.inl ⟨by omega, h3, by omega, q0, q1, q2⟩))⟩
          · rintro ⟨_, h⟩
            refine ⟨by decide, by omega, fun i hi => ?_⟩
            have hi' : i = 0 ∨ i = 1 ∨ i = 2 := by omega
            rcases hi' with rfl | rfl | rfl <;> simp only [List.getD_cons_zero, List.getD_cons_succ] <;> omega
        · rw [Lib.encodeRuneZ_four (by omega) (by omega)]
          simp only [List.length_cons, List.length_nil]
          constructor
          · rintro ⟨_, h4, h5⟩
            have q0 := h5 0 (by decide)
            have q1 := h5 1 (by decide)
            have q2 := h5 2 (by decide)
            have q3 := h5 3 (by decide)
            simp only [List.getD_cons_zero, List.getD_cons_succ] at q0 q1 q2 q3
            exact ⟨hv, .inr (.inr (.inr ⟨by omega, by omega, q0, q1, q2, q3⟩))⟩
          · rintro ⟨_, h⟩
            refine ⟨by decide, by omega, fun i hi => ?_⟩
            have hi' : i = 0 ∨ i = 1 ∨ i = 2 ∨ i = 3 := by omega
            rcases hi' with rfl | rfl | rfl | rfl <;> simp only [List.getD_cons_zero, List.getD_cons_succ] <;> omega
theorem bytesL_len2 (r : Int) (h0 : 128 ≤ r) (h1 : r ≤ 2047) : (bytesL r).length = 2 := by
  simp only [bytesL]; rw [if_neg (by omega), enc_length, Lib.encodeRuneZ_two h0 h1]; rfl
theorem bytesL_len3 (r : Int) (hv : ¬ (55296 ≤ r ∧ r ≤ 57343)) (h0 : 2048 ≤ r) (h1 : r ≤ 65535) : (bytesL r).length = 3 := by
  simp only [bytesL]; rw [if_neg (by omega), enc_length, Lib.encodeRuneZ_three (by omega)]; rfl
theorem bytesL_len4 (r : Int) (h0 : 65536 ≤ r) (h1 : r ≤ 1114111) : (bytesL r).length = 4 := by
  simp only [bytesL]; rw [if_neg (by omega), enc_length, Lib.encodeRuneZ_four h0 h1]; rfl
/-- The candidates. -/
def cand2 (l : List UInt8) : Int := 64 * (((l.getD 0 0).toNat : Int) - 192) + lowL l 1
def cand3 (l : List UInt8) : Int := 4096 * (((l.getD 0 0).toNat : Int) - 224) + 64 * lowL l 1 + lowL l 2
def cand4 (l : List UInt8) : Int := 262144 * (((l.getD 0 0).toNat : Int) - 240) + 4096 * lowL l 1 + 64 * lowL l 2 + lowL l 3
theorem next_of (l : List UInt8) (hl : 0 < l.length) (a b : Nat) (h : Lib.decodeN l.length (l.getD 0 0).toNat (l.getD 1 0).toNat (l.getD 2 0).toNat (l.getD 3 0).toNat = (a, b)) : nextL l = (a, b) := by
  have hne : l ≠ [] := List.length_pos_iff.1 hl
  simp only [nextL, if_neg hne]
  rw [Lib.decodeL_N, h]
set_option maxHeartbeats 2000000 in
theorem two_yes (l : List UInt8) (h0 : 192 ≤ (l.getD 0 0).toNat) (h1 : (l.getD 0 0).toNat < 224) (h : begL l (bytesL (cand2 l)) = true) : (bytesL (cand2 l)).length = 2 ∧ 0 ≤ cand2 l ∧ nextL l = ((cand2 l).toNat, 2) := by
  rw [beg_iff] at h
  have hb1 := (l.getD 1 0).toNat_lt
  unfold cand2 lowL at *
  refine ⟨bytesL_len2 _ ?_ ?_, ?_, ?_⟩
  · split at * <;> omega
  · split at * <;> omega
  · split at * <;> omega
  · refine next_of l (by omega) _ _ ?_
    unfold Lib.decodeN
    split at h
    · rw [if_neg (by omega), if_pos (by omega), if_pos (by omega)]
      apply Prod.ext <;> simp only <;> omega
    · omega
set_option maxHeartbeats 2000000 in
theorem two_no (l : List UInt8) (hl : 0 < l.length) (h0 : 192 ≤ (l.getD 0 0).toNat) (h1 : (l.getD 0 0).toNat < 224) (h : begL l (bytesL (cand2 l)) = false) : nextL l = (65533, 1) := by
  have h' : ¬ begL l (bytesL (cand2 l)) = true := by rw [h]; simp
  rw [beg_iff] at h'
  have hb1 := (l.getD 1 0).toNat_lt
  unfold cand2 lowL at *
  refine next_of l hl _ _ ?_
  unfold Lib.decodeN
  rw [if_neg (by omega)]
  by_cases hc : (l.getD 0 0).toNat / 32 = 6 ∧ 1 < l.length ∧ (l.getD 1 0).toNat / 64 = 2
  · rw [if_pos hc]
    split at h'
    · rw [if_neg (by omega)]
    · omega
  · rw [if_neg hc, if_neg (by omega), if_neg (by omega)]
set_option maxHeartbeats 4000000 in
theorem three_yes (l : List UInt8) (h0 : 224 ≤ (l.getD 0 0).toNat) (h1 : (l.getD 0 0).toNat < 240) (h2 : 0 ≤ lowL l 2) (h : begL l (bytesL (cand3 l)) = true) : (bytesL (cand3 l)).length = 3 ∧ 0 ≤ cand3 l ∧ nextL l = ((cand3 l).toNat, 3) := by
  rw [beg_iff] at h
  have hb1 := (l.getD 1 0).toNat_lt
  have hb2 := (l.getD 2 0).toNat_lt
  have hlow1 : lowL l 1 = ((l.getD 1 0).toNat : Int) - 128 ∧ 1 < l.length ∧ 128 ≤ (l.getD 1 0).toNat ∧ (l.getD 1 0).toNat ≤ 191 := by
    have hlb := lowL_bound l 1
    have hlb2 := lowL_bound l 2
    have hu : lowL l 1 = if 1 < l.length ∧ 128 ≤ (l.getD 1 0).toNat ∧ (l.getD 1 0).toNat ≤ 191 then ((l.getD 1 0).toNat : Int) - 128 else -1 := rfl
    unfold cand3 at h
    split at hu
    · exact ⟨hu, by omega⟩
    · exfalso
      generalize lowL l 2 = y2 at *
      rw [hu] at h
      omega
  have hlow2 : lowL l 2 = ((l.getD 2 0).toNat : Int) - 128 ∧ 2 < l.length ∧ 128 ≤ (l.getD 2 0).toNat ∧ (l.getD 2 0).toNat ≤ 191 := by
    have hu : lowL l 2 = if 2 < l.length ∧ 128 ≤ (l.getD 2 0).toNat ∧ (l.getD 2 0).toNat ≤ 191 then ((l.getD 2 0).toNat : Int) - 128 else -1 := rfl
    split at hu
    · exact ⟨hu, by omega⟩
    · omega
  have hc : cand3 l = 4096 * (((l.getD 0 0).toNat : Int) - 224) + 64 * (((l.getD 1 0).toNat : Int) - 128) + (((l.getD 2 0).toNat : Int) - 128) := by unfold cand3; rw [hlow1.1, hlow2.1]
  obtain ⟨_, g1, g2, g3⟩ := hlow1
  obtain ⟨_, g4, g5, g6⟩ := hlow2
  generalize cand3 l = r at *
  refine ⟨bytesL_len3 _ (by omega) (by omega) (by omega), by omega, ?_⟩
  refine next_of l (by omega) _ _ ?_
  unfold Lib.decodeN
  rw [if_neg (by omega), if_neg (by omega), if_pos (by omega), if_pos (by omega)]
  apply Prod.ext <;> simp only <;> omega
set_option maxHeartbeats 4000000 in
theorem three_no (l : List UInt8) (hl : 0 < l.length) (h0 : 224 ≤ (l.getD 0 0).toNat) (h1 : (l.getD 0 0).toNat < 240) (h : lowL l 2 < 0 ∨ begL l (bytesL (cand3 l)) = false) : nextL l = (65533, 1) := by
  have hb1 := (l.getD 1 0).toNat_lt
  have hb2 := (l.getD 2 0).toNat_lt
  refine next_of l hl _ _ ?_
  unfold Lib.decodeN
  rw [if_neg (by omega), if_neg (by omega)]
  by_cases hc : (l.getD 0 0).toNat / 16 = 14 ∧ (1 < l.length ∧ (l.getD 1 0).toNat / 64 = 2) ∧ (2 < l.length ∧ (l.getD 2 0).toNat / 64 = 2)
  · rw [if_pos hc]
    have hlow1 : lowL l 1 = ((l.getD 1 0).toNat : Int) - 128 := by unfold lowL; rw [if_pos (by omega)]
    have hlow2 : lowL l 2 = ((l.getD 2 0).toNat : Int) - 128 := by unfold lowL; rw [if_pos (by omega)]
    have h' : ¬ begL l (bytesL (cand3 l)) = true := by
      rcases h with h | h
      · rw [hlow2] at h; omega
      · rw [h]; simp
    rw [beg_iff] at h'
    unfold cand3 at h'
    rw [hlow1, hlow2] at h'
    rw [if_neg (by omega)]
  · rw [if_neg hc, if_neg (by omega)]
set_option maxHeartbeats 4000000 in
theorem four_yes (l : List UInt8) (h0 : 240 ≤ (l.getD 0 0).toNat) (h1 : (l.getD 0 0).toNat < 248) (h3 : 0 ≤ lowL l 3) (h : begL l (bytesL (cand4 l)) = true) : (bytesL (cand4 l)).length = 4 ∧ 0 ≤ cand4 l ∧ nextL l = ((cand4 l).toNat, 4) := by
  rw [beg_iff] at h
  have hb1 := (l.getD 1 0).toNat_lt
  have hb2 := (l.getD 2 0).toNat_lt
  have hb3 := (l.getD 3 0).toNat_lt
  have hlb1 := lowL_bound l 1
  have hlb2 := lowL_bound l 2
  have hlow3 : lowL l 3 = ((l.getD 3 0).toNat : Int) - 128 ∧ 3 < l.length ∧ 128 ≤ (l.getD 3 0).toNat ∧ (l.getD 3 0).toNat ≤ 191 := by
    have hu : lowL l 3 = if 3 < l.length ∧ 128 ≤ (l.getD 3 0).toNat ∧ (l.getD 3 0).toNat ≤ 191 then ((l.getD 3 0).toNat : Int) - 128 else -1 := rfl
    split at hu
    · exact ⟨hu, by omega⟩
    · omega
  have hlow1 : lowL l 1 = ((l.getD 1 0).toNat : Int) - 128 ∧ 1 < l.length ∧ 128 ≤ (l.getD 1 0).toNat ∧ (l.getD 1 0).toNat ≤ 191 := by
    have hu : lowL l 1 = if 1 < l.length ∧ 128 ≤ (l.getD 1 0).toNat ∧ (l.getD 1 0).toNat ≤ 191 then ((l.getD 1 0).toNat : Int) - 128 else -1 := rfl
    unfold cand4 at h
    split at hu
    · exact ⟨hu, by omega⟩
    · exfalso
      rw [hu] at h
      generalize lowL l 2 = y2 at *
      generalize lowL l 3 = y3 at *
      omega
  have hlow2 : lowL l 2 = ((l.getD 2 0).toNat : Int) - 128 ∧ 2 < l.length ∧ 128 ≤ (l.getD 2 0).toNat ∧ (l.getD 2 0).toNat ≤ 191 := by
    have hu : lowL l 2 = if 2 < l.length ∧ 128 ≤ (l.getD 2 0).toNat ∧ (l.getD 2 0).toNat ≤ 191 then ((l.getD 2 0).toNat : Int) - 128 else -1 := rfl
    unfold cand4 at h
    split at hu
    · exact ⟨hu, by omega⟩
    · exfalso
      rw [hu] at h
      generalize lowL l 1 = y1 at *
      generalize lowL l 3 = y3 at *
      omega
  have hc : cand4 l = 262144 * (((l.getD 0 0).toNat : Int) - 240) + 4096 * (((l.getD 1 0).toNat : Int) - 128) + 64 * (((l.getD 2 0).toNat : Int) - 128) + (((l.getD 3 0).toNat : Int) - 128) := by unfold cand4; rw [hlow1.1, hlow2.1, hlow3.1]
  obtain ⟨_, g1, g2, g3⟩ := hlow1
  obtain ⟨_, g4, g5, g6⟩ := hlow2
  obtain ⟨_, g7, g8, g9⟩ := hlow3
  generalize cand4 l = r at *
  refine ⟨bytesL_len4 _ (by omega) (by omega), by omega, ?_⟩
  refine next_of l (by omega) _ _ ?_
  unfold Lib.decodeN
  rw [if_neg (by omega), if_neg (by omega), if_neg (by omega), if_pos (by omega), if_pos (by omega)]
  apply Prod.ext <;> simp only <;> omega
set_option maxHeartbeats 4000000 in
theorem four_no (l : List UInt8) (hl : 0 < l.length) (h0 : 240 ≤ (l.getD 0 0).toNat) (h : (l.getD 0 0).toNat < 248 → lowL l 3 < 0 ∨ begL l (bytesL (cand4 l)) = false) : nextL l = (65533, 1) := by
  have hb0 := (l.getD 0 0).toNat_lt
  have hb1 := (l.getD 1 0).toNat_lt
  have hb2 := (l.getD 2 0).toNat_lt
  have hb3 := (l.getD 3 0).toNat_lt
  refine next_of l hl _ _ ?_
  unfold Lib.decodeN
  rw [if_neg (by omega), if_neg (by omega), if_neg (by omega)]
  by_cases hc : (l.getD 0 0).toNat / 8 = 30 ∧ (1 < l.length ∧ (l.getD 1 0).toNat / 64 = 2) ∧ (2 < l.length ∧ (l.getD 2 0).toNat / 64 = 2) ∧ (3 < l.length ∧ (l.getD 3 0).toNat / 64 = 2)
  · rw [if_pos hc]
    have hlow1 : lowL l 1 = ((l.getD 1 0).toNat : Int) - 128 := by unfold lowL; rw [if_pos (by omega)]
    have hlow2 : lowL l 2 = ((l.getD 2 0).toNat : Int) - 128 := by unfold lowL; rw [if_pos (by omega)]
    have hlow3 : lowL l 3 = ((l.getD 3 0).toNat : Int) - 128 := by unfold lowL; rw [if_pos (by omega)]
    have h' : ¬ begL l (bytesL (cand4 l)) = true := by
      rcases h (by omega) with h | h
      · rw [hlow3] at h; omega
      · rw [h]; simp
    rw [beg_iff] at h'
    unfold cand4 at h'
    rw [hlow1, hlow2, hlow3] at h'
    rw [if_neg (by omega)]
  · rw [if_neg hc]
theorem next_cont (l : List UInt8) (hl : 0 < l.length) (h0 : 128 ≤ (l.getD 0 0).toNat) (h1 : (l.getD 0 0).toNat < 192) : nextL l = (65533, 1) := by
  refine next_of l hl _ _ ?_
  unfold Lib.decodeN
  rw [if_neg (by omega), if_neg (by omega), if_neg (by omega), if_neg (by omega)]
theorem next_ascii (l : List UInt8) (hl : 0 < l.length) (h1 : (l.getD 0 0).toNat < 128) : nextL l = ((l.getD 0 0).toNat, 1) := by
  refine next_of l hl _ _ ?_
  unfold Lib.decodeN
  rw [if_pos h1]
end
section
open Go
/-- The bytes of signs, one behind the other. -/
def encL (rs : List Nat) : List UInt8 := rs.flatMap fun (r : Nat) => Lib.encodeRune (r : Int)
theorem cleanL_enc (l : List UInt8) : cleanL l = encL (runes l) := rfl
theorem encL_cons (r : Nat) (rs : List Nat) : encL (r :: rs) = Lib.encodeRune (r : Int) ++ encL rs := by simp [encL]
theorem encL_append (a b : List Nat) : encL (a ++ b) = encL a ++ encL b := by simp [encL]
theorem encL_length (rs : List Nat) : (encL rs).length ≤ 4 * rs.length := by
  induction rs with
  | nil => simp [encL]
  | cons r t ih =>
    have := Lib.runeCells_le (r : Int)
    rw [Lib.runeCells_length] at this
    rw [encL_cons, List.length_append, List.length_cons]
    omega
theorem getD_left (a b : List UInt8) (i : Nat) (h : i < a.length) : (a ++ b).getD i 0 = a.getD i 0 := by
  simp [List.getD, List.getElem?_append, h]
/-- What was written for a sign is read as it. -/
theorem dec_enc (r : Nat) (h : Valid r) (t : List UInt8) : Lib.decodeL (Lib.encodeRune (r : Int) ++ t) = (r, (Lib.encodeRune (r : Int)).length) := by
  unfold Valid at h
  have hl := enc_length (r : Int)
  have hg : ∀ i, i < (Lib.encodeRuneZ (r : Int)).length → ((((Lib.encodeRune (r : Int) ++ t).getD i 0).toNat : Nat) : Int) = (Lib.encodeRuneZ (r : Int)).getD i 0 := fun i hi => by
    rw [getD_left _ _ _ (by rw [hl]; exact hi)]; exact enc_getD (r : Int) i hi
  have hn : (Lib.encodeRune (r : Int) ++ t).length = (Lib.encodeRuneZ (r : Int)).length + t.length := by rw [List.length_append, hl]
  rw [Lib.decodeL_N, hn, hl]
  clear hn hl
  by_cases h1 : r ≤ 127
  · have hZ := Lib.encodeRuneZ_one (r := (r : Int)) (by omega) (by omega)
    rw [hZ] at hg ⊢
    have q0 := hg 0 (by simp)
    simp only [List.getD_cons_zero] at q0
    clear hg
    generalize ((Lib.encodeRune (r : Int) ++ t).getD 0 0).toNat = b0 at *
    unfold Lib.decodeN
    rw [if_pos (by omega)]
    apply Prod.ext <;> simp only [List.length_cons, List.length_nil] <;> omega
  · by_cases h2 : r ≤ 2047
    · have hZ := Lib.encodeRuneZ_two (r := (r : Int)) (by omega) (by omega)
      rw [hZ] at hg ⊢
      have q0 := hg 0 (by simp)
      have q1 := hg 1 (by simp)
      simp only [List.getD_cons_zero, List.getD_cons_succ] at q0 q1
      clear hg
      generalize ((Lib.encodeRune (r : Int) ++ t).getD 0 0).toNat = b0 at *
      generalize ((Lib.encodeRune (r : Int) ++ t).getD 1 0).toNat = b1 at *
      simp only [List.length_cons, List.length_nil]
      unfold Lib.decodeN
      rw [if_neg (by omega), if_pos (by omega), if_pos (by omega)]
      apply Prod.ext <;> simp only <;> omega
    · by_cases h3 : r ≤ 65535
      · have hZ := Lib.encodeRuneZ_three (r := (r : Int)) (by omega)
        rw [hZ] at hg ⊢
        have q0 := hg 0 (by simp)
        have q1 := hg 1 (by simp)
        have q2 := hg 2 (by simp)
        simp only [List.getD_cons_zero, List.getD_cons_succ] at q0 q1 q2
        clear hg
        generalize ((Lib.encodeRune (r : Int) ++ t).getD 0 0).toNat = b0 at *
        generalize ((Lib.encodeRune (r : Int) ++ t).getD 1 0).toNat = b1 at *
        generalize ((Lib.encodeRune (r : Int) ++ t).getD 2 0).toNat = b2 at *
        simp only [List.length_cons, List.length_nil]
        unfold Lib.decodeN
        rw [if_neg (by omega), if_neg (by omega), if_pos (by omega), if_pos (by omega)]
        apply Prod.ext <;> simp only <;> omega
      · have hZ := Lib.encodeRuneZ_four (r := (r : Int)) (by omega) (by omega)
        rw [hZ] at hg ⊢
        have q0 := hg 0 (by simp)
        have q1 := hg 1 (by simp)
        have q2 := hg 2 (by simp)
        have q3 := hg 3 (by simp)
        simp only [List.getD_cons_zero, List.getD_cons_succ] at q0 q1 q2 q3
        clear hg
        generalize ((Lib.encodeRune (r : Int) ++ t).getD 0 0).toNat = b0 at *
        generalize ((Lib.encodeRune (r : Int) ++ t).getD 1 0).toNat = b1 at *
        generalize ((Lib.encodeRune (r : Int) ++ t).getD 2 0).toNat = b2 at *
        generalize ((Lib.encodeRune (r : Int) ++ t).getD 3 0).toNat = b3 at *
        simp only [List.length_cons, List.length_nil]
        unfold Lib.decodeN
        rw [if_neg (by omega), if_neg (by omega), if_neg (by omega), if_pos (by omega), if_pos (by omega)]
        apply Prod.ext <;> simp only <;> omega
theorem runes_enc_append : ∀ (rs : List Nat), (∀ r ∈ rs, Valid r) → ∀ b : List UInt8, runes (encL rs ++ b) = rs ++ runes b
  | [], _, b => by simp [encL]
  | r :: rs, h, b => by
    have hl := Lib.runeCells_le (r : Int)
    rw [Lib.runeCells_length] at hl
    rw [encL_cons, List.append_assoc]
    have hne : Lib.encodeRune (r : Int) ++ (encL rs ++ b) ≠ [] := by
      intro h0
      have := congrArg List.length h0
      simp at this
      simp [this.1] at hl
    rw [runes_step _ hne, dec_enc r (h r (by simp)) _, List.drop_left, runes_enc_append rs (fun x hx => h x (by simp [hx])) b]
    simp
theorem runes_enc (rs : List Nat) (h : ∀ r ∈ rs, Valid r) : runes (encL rs) = rs := by
  have := runes_enc_append rs h []
  simpa [runes_nil] using this
theorem runes_clean (l : List UInt8) : runes (cleanL l) = runes l := runes_enc _ (runes_valid l)
theorem clean_length (l : List UInt8) : (cleanL l).length ≤ 4 * l.length := by
  have h1 := encL_length (runes l)
  have h2 := runes_length l
  rw [cleanL_enc]
  omega
/-- A sign is told by its own bytes. -/
theorem decodeN_take (n m b0 b1 b2 b3 : Nat) (hmn : m ≤ n) (h : (Lib.decodeN n b0 b1 b2 b3).2 ≤ m) : Lib.decodeN m b0 b1 b2 b3 = Lib.decodeN n b0 b1 b2 b3 := by
  have hs := Lib.decodeN_shape n b0 b1 b2 b3
  have hm := Lib.decodeN_shape m b0 b1 b2 b3
  rcases hs with ⟨h1, e⟩ | ⟨h1, h2, h3, h4, e⟩ | ⟨h1, h2, h3, h4, h5, h6, e⟩ | ⟨h1, h2, h3, h4, h5, h6, h7, e⟩ | e
  · rw [e]; unfold Lib.decodeN; rw [if_pos h1]
  · rw [e] at h ⊢
    simp only at h
    unfold Lib.decodeN
    rw [if_neg (by omega), if_pos (by omega), if_pos (by omega)]
  · rw [e] at h ⊢
    simp only at h
    unfold Lib.decodeN
    rw [if_neg (by omega), if_neg (by omega), if_pos (by omega), if_pos (by omega)]
  · rw [e] at h ⊢
    simp only at h
    unfold Lib.decodeN
    rw [if_neg (by omega), if_neg (by omega), if_neg (by omega), if_pos (by omega), if_pos (by omega)]
  · rcases hm with ⟨h1, e'⟩ | ⟨h1, h2, h3, h4, e'⟩ | ⟨h1, h2, h3, h4, h5, h6, e'⟩ | ⟨h1, h2, h3, h4, h5, h6, h7, e'⟩ | e'
    · rw [e']
      unfold Lib.decodeN
      rw [if_pos h1]
    · exfalso
      unfold Lib.decodeN at e
      rw [if_neg (by omega), if_pos (by omega), if_pos (by omega)] at e
      simp at e
    · exfalso
      unfold Lib.decodeN at e
      rw [if_neg (by omega), if_neg (by omega), if_pos (by omega), if_pos (by omega)] at e
      simp at e
    · exfalso
      unfold Lib.decodeN at e
      rw [if_neg (by omega), if_neg (by omega), if_neg (by omega), if_pos (by omega), if_pos (by omega)] at e
      simp at e
    · rw [e, e']
theorem decodeN_first (n b0 b1 b2 b3 c1 c2 c3 : Nat) (h1 : 1 < n → b1 = c1) (h2 : 2 < n → b2 = c2) (h3 : 3 < n → b3 = c3) : Lib.decodeN n b0 b1 b2 b3 = Lib.decodeN n b0 c1 c2 c3 := by
  by_cases k1 : 1 < n
  · rw [h1 k1]
    by_cases k2 : 2 < n
    · rw [h2 k2]
      by_cases k3 : 3 < n
      · rw [h3 k3]
      · simp only [Lib.decodeN, k3, false_and, and_false, if_false]
    · have k3 : ¬ 3 < n := by omega
      simp only [Lib.decodeN, k2, k3, false_and, and_false, if_false]
  · have k2 : ¬ 2 < n := by omega
    have k3 : ¬ 3 < n := by omega
    simp only [Lib.decodeN, k1, k2, k3, false_and, and_false, if_false]
theorem getD_take (l : List UInt8) (m i : Nat) (h : i < m) : (l.take m).getD i 0 = l.getD i 0 := by
  simp [List.getD, h]
theorem take_dec (x : List UInt8) (m : Nat) (h : (Lib.decodeL x).2 ≤ m) : Lib.decodeL (x.take m) = Lib.decodeL x := by
  have hw := Lib.decodeL_width x
  have hm1 : 0 < m := by omega
  by_cases hm : x.length ≤ m
  · rw [List.take_of_length_le hm]
  · rw [Lib.decodeL_N] at h ⊢
    rw [Lib.decodeL_N x, List.length_take, Nat.min_eq_left (by omega), getD_take x m 0 hm1]
    rw [decodeN_first m _ _ _ _ (x.getD 1 0).toNat (x.getD 2 0).toNat (x.getD 3 0).toNat (fun h => by rw [getD_take x m 1 h]) (fun h => by rw [getD_take x m 2 h]) (fun h => by rw [getD_take x m 3 h])]
    exact decodeN_take _ _ _ _ _ _ (by omega) h
/-- Places at which a sign ends, found from the front. -/
inductive Bound (l : List UInt8) : Nat → Prop
  | zero : Bound l 0
  | step {k : Nat} : Bound l k → k < l.length → Bound l (k + (Lib.decodeL (l.drop k)).2)
theorem Bound.le {l : List UInt8} {k : Nat} (h : Bound l k) : k ≤ l.length := by
  induction h with
  | zero => omega
  | @step k _ hk _ =>
    have hne : l.drop k ≠ [] := by
      intro h0
      have := congrArg List.length h0
      simp at this
      omega
    have := Lib.decodeL_le _ hne
    rw [List.length_drop] at this
    omega
theorem Bound.runes {l : List UInt8} {k : Nat} (h : Bound l k) : ∃ rs, ∀ m, k ≤ m → YteafcaambnfdoaaDoor.runes (l.take m) = rs ++ YteafcaambnfdoaaDoor.runes ((l.take m).drop k) := by
  induction h with
  | zero => exact ⟨[], fun m _ => by simp⟩
  | @step k hb hk ih =>
    obtain ⟨rs, ih⟩ := ih
    refine ⟨rs ++ [(Lib.decodeL (l.drop k)).1], fun m hm => ?_⟩
    have hw := Lib.decodeL_width (l.drop k)
    rw [ih m (by omega)]
    have e : (l.take m).drop k = (l.drop k).take (m - k) := List.drop_take
    have hne : (l.take m).drop k ≠ [] := by
      intro h0
      have := congrArg List.length h0
      simp at this
      omega
    have hd : Lib.decodeL ((l.take m).drop k) = Lib.decodeL (l.drop k) := by rw [e]; exact take_dec _ _ (by omega)
    rw [runes_step _ hne, hd, List.drop_drop]
    simp
theorem Bound.cut {l : List UInt8} {k : Nat} (h : Bound l k) : YteafcaambnfdoaaDoor.runes (l.take k) ++ YteafcaambnfdoaaDoor.runes (l.drop k) = YteafcaambnfdoaaDoor.runes l := by
  obtain ⟨rs, hr⟩ := h.runes
  have h1 := hr k (Nat.le_refl _)
  have h2 := hr l.length h.le
  rw [List.drop_eq_nil_of_le (by simp; omega), runes_nil, List.append_nil] at h1
  rw [List.take_length] at h2
  rw [h1, h2]
end
section
open Go
/-- The ranges of signs that do not take one column: the first, the last, how many columns. -/
def spansL : List (Int × Int × Nat) :=
  [(768, 879, 0), (6832, 6911, 0), (7616, 7679, 0), (8203, 8205, 0), (8400, 8447, 0), (65024, 65039, 0), (65056, 65071, 0),
   (4352, 4447, 2), (11904, 12350, 2), (12353, 42191, 2), (44032, 55203, 2), (63744, 64255, 2), (65072, 65135, 2), (65281, 65376, 2), (65504, 65510, 2), (127744, 129791, 2), (131072, 262141, 2)]
def ofF : List (Int × Int × Nat) → Int → Nat
  | [], _ => 1
  | x :: xs, r => if x.1 ≤ r ∧ r ≤ x.2.1 then x.2.2 else ofF xs r
/-- How many columns a code point takes. -/
def ofL (r : Int) : Nat := ofF spansL r
/-- Does a code point steer a terminal? -/
def ctlL (r : Int) : Bool := decide (r < 32 ∨ (127 ≤ r ∧ r ≤ 159))
def zlenF : Nat → List UInt8 → Nat
  | 0, _ => 0
  | f + 1, l => if l = [] ∨ ofL ((Lib.decodeL l).1 : Int) ≠ 0 then 0 else (Lib.decodeL l).2 + zlenF f (l.drop (Lib.decodeL l).2)
/-- How many bytes the signs of width 0 have with which l begins. -/
def zlen (l : List UInt8) : Nat := zlenF l.length l
theorem zlenF_nil (f : Nat) : zlenF f [] = 0 := by cases f <;> simp [zlenF]
theorem drop_lt (l : List UInt8) (hl : l ≠ []) : (l.drop (Lib.decodeL l).2).length < l.length := by
  have hw := Lib.decodeL_width l
  have h0 : 0 < l.length := List.length_pos_iff.2 hl
  rw [List.length_drop]; omega
theorem zlenF_more : ∀ (f g : Nat) (l : List UInt8), l.length ≤ f → l.length ≤ g → zlenF f l = zlenF g l
  | 0, g, l, hf, _ => by
    obtain rfl : l = [] := List.eq_nil_of_length_eq_zero (by omega)
    rw [zlenF_nil, zlenF_nil]
  | f + 1, 0, l, _, hg => by
    obtain rfl : l = [] := List.eq_nil_of_length_eq_zero (by omega)
    rw [zlenF_nil, zlenF_nil]
  | f + 1, g + 1, l, hf, hg => by
    by_cases hl : l = []
    · subst hl; rw [zlenF_nil, zlenF_nil]
    · have hd := drop_lt l hl
      simp only [zlenF]
      rw [zlenF_more f g _ (by omega) (by omega)]
theorem zlen_wide (l : List UInt8) (h : ofL ((Lib.decodeL l).1 : Int) ≠ 0) : zlen l = 0 := by
  unfold zlen
  cases l.length with
  | zero => rfl
  | succ n => simp [zlenF, h]
theorem zlen_zero (l : List UInt8) (hl : l ≠ []) (h : ofL ((Lib.decodeL l).1 : Int) = 0) : zlen l = (Lib.decodeL l).2 + zlen (l.drop (Lib.decodeL l).2) := by
  have hd := drop_lt l hl
  obtain ⟨b, t, rfl⟩ : ∃ b t, l = b :: t := by cases l <;> simp_all
  show zlenF (t.length + 1) _ = _
  simp only [zlenF, zlen]
  rw [if_neg (by simp [h]), zlenF_more t.length _ _ (by simp at hd ⊢; omega) (Nat.le_refl _)]
/-- How many bytes the first cluster of l has. -/
def clen (l : List UInt8) : Nat := (Lib.decodeL l).2 + zlen (l.drop (Lib.decodeL l).2)
def cutF : Nat → List UInt8 → List (List UInt8)
  | 0, _ => []
  | f + 1, l => if l = [] then [] else l.take (clen l) :: cutF f (l.drop (clen l))
/-- The clusters of a text. -/
def cutL (l : List UInt8) : List (List UInt8) := cutF l.length l
/-- The clusters of cur and what is behind it, where cur is the beginning of one. -/
def cutFrom (cur l : List UInt8) : List (List UInt8) := (cur ++ l.take (zlen l)) :: cutL (l.drop (zlen l))
theorem enc_ne (r : Nat) (t : List UInt8) : Lib.encodeRune (r : Int) ++ t ≠ [] := by
  have hl := Lib.runeCells_le (r : Int)
  rw [Lib.runeCells_length] at hl
  intro h0
  have := congrArg List.length h0
  simp at this
  simp [this.1] at hl
/-- How many columns a cluster takes; what is shown for it. -/
def wideL (c : List UInt8) : Nat := if c = [] then 0 else max 1 (ofL ((Lib.decodeL c).1 : Int))
def showL (c : List UInt8) : List UInt8 := if c = [] then [] else if ofL ((Lib.decodeL c).1 : Int) = 0 ∨ ctlL ((Lib.decodeL c).1 : Int) = true then [239, 191, 189] else cleanL c
/-- Where clusters begin, one behind the other from a on, and where they end. -/
def bnd : Nat → List (List UInt8) → List Nat
  | a, [] => [a]
  | a, c :: cs => a :: bnd (a + c.length) cs
def withAt : Nat → List (List UInt8) → List (Nat × List UInt8)
  | _, [] => []
  | a, c :: cs => (a, c) :: withAt (a + c.length) cs
/-- The clusters of a text, each with where it begins; where they begin. -/
def eachL (l : List UInt8) : List (Nat × List UInt8) := withAt 0 (cutL l)
def boundsL (l : List UInt8) : List Nat := bnd 0 (cutL l)
/-- How many columns texts take. -/
def wides (cs : List (List UInt8)) : Nat := (cs.map wideL).sum
def sumL (l : List UInt8) : Nat := wides (cutL l)
end
section
open Go
/-- What a line holds for a sign. -/
def plR (r : Nat) : List Nat := if r = 9 ∨ r = 10 ∨ r = 13 then [32] else if ctlL (r : Int) = true then [] else [r]
/-- A text as a line may hold it. -/
def plainL (l : List UInt8) : List UInt8 := encL ((runes l).flatMap plR)
def Fine (r : Nat) : Prop := Valid r ∧ ctlL (r : Int) = false
theorem plR_of (r : Nat) (h : Fine r) : plR r = [r] := by
  have h2 := h.2
  unfold plR
  rw [if_neg, if_neg (by simp [h2])]
  rintro (rfl | rfl | rfl) <;> exact absurd h2 (by decide)
/-- Texts that a line may hold. -/
def PlainP (l : List UInt8) : Prop := ∃ rs, (∀ r ∈ rs, Fine r) ∧ l = encL rs
theorem PlainP.nil : PlainP [] := ⟨[], by simp, rfl⟩
theorem PlainP.append {a b : List UInt8} (ha : PlainP a) (hb : PlainP b) : PlainP (a ++ b) := by
  obtain ⟨r, h1, rfl⟩ := ha
  obtain ⟨s, h2, rfl⟩ := hb
  exact ⟨r ++ s, fun x hx => (List.mem_append.1 hx).elim (h1 x) (h2 x), (encL_append r s).symm⟩
theorem flatMap_fine (rs : List Nat) (h : ∀ r ∈ rs, Fine r) : rs.flatMap plR = rs := by
  induction rs with
  | nil => rfl
  | cons r t ih => rw [List.flatMap_cons, plR_of r (h r (by simp)), ih (fun x hx => h x (by simp [hx]))]; rfl
theorem PlainP.plain {l : List UInt8} (h : PlainP l) : plainL l = l := by
  obtain ⟨rs, h1, rfl⟩ := h
  unfold plainL
  rw [runes_enc rs (fun r hr => (h1 r hr).1), flatMap_fine rs h1]
theorem zlen_enc : ∀ rs : List Nat, (∀ r ∈ rs, Valid r) → zlen (encL rs) = (encL (rs.takeWhile fun r => decide (ofL (r : Int) = 0))).length
  | [], _ => rfl
  | r :: rs, h => by
    have hd := dec_enc r (h r (by simp)) (encL rs)
    rw [encL_cons]
    by_cases hz : ofL (r : Int) = 0
    · rw [zlen_zero _ (enc_ne _ _) (by rw [hd]; exact hz), hd, List.takeWhile_cons_of_pos (by simpa using hz), encL_cons, List.length_append]
      simp only [List.drop_left]
      rw [zlen_enc rs (fun x hx => h x (by simp [hx]))]
    · rw [zlen_wide _ (by rw [hd]; exact hz), List.takeWhile_cons_of_neg (by simpa using hz)]
      rfl
theorem PlainP.first {l : List UInt8} (h : PlainP l) (hl : l ≠ []) : PlainP (l.take (clen l)) ∧ PlainP (l.drop (clen l)) := by
  obtain ⟨rs, h1, rfl⟩ := h
  obtain ⟨r, t, rfl⟩ : ∃ r t, rs = r :: t := by
    cases rs with
    | nil => exact absurd rfl hl
    | cons r t => exact ⟨r, t, rfl⟩
  have hd := dec_enc r (h1 r (by simp)).1 (encL t)
  have hz := zlen_enc t (fun x hx => (h1 x (by simp [hx])).1)
  have hc : clen (encL (r :: t)) = (encL (r :: t.takeWhile fun r => decide (ofL (r : Int) = 0))).length := by
    unfold clen
    rw [encL_cons, hd, encL_cons, List.length_append]
    simp only [List.drop_left]
    rw [hz]
  have he : encL (r :: t) = encL (r :: t.takeWhile fun r => decide (ofL (r : Int) = 0)) ++ encL (t.dropWhile fun r => decide (ofL (r : Int) = 0)) := by
    rw [← encL_append, List.cons_append, List.takeWhile_append_dropWhile]
  refine ⟨⟨r :: t.takeWhile fun r => decide (ofL (r : Int) = 0), fun x hx => ?_, ?_⟩, ⟨t.dropWhile fun r => decide (ofL (r : Int) = 0), fun x hx => ?_, ?_⟩⟩
  · rcases List.mem_cons.1 hx with rfl | hx
    · exact h1 _ (by simp)
    · exact h1 x (by simp [(List.takeWhile_sublist _).subset hx])
  · rw [hc]
    conv => lhs; rw [he]
    rw [List.take_left]
  · exact h1 x (by simp [(List.dropWhile_sublist _).subset hx])
  · rw [hc]
    conv => lhs; rw [he]
    rw [List.drop_left]
/-- Behind a cluster a sign of some width begins. -/
def Wid (y : List UInt8) : Prop := y = [] ∨ ofL ((Lib.decodeL y).1 : Int) ≠ 0
/-- Where cluster number k begins. -/
def pos (cs : List (List UInt8)) (k : Nat) : Nat := (cs.take k).flatten.length
/-- No cluster is empty. -/
def Full (cs : List (List UInt8)) : Prop := ∀ c ∈ cs, c ≠ []
/-- The number of the greatest bound that is not above n (0, if none is). -/
def bk : List (List UInt8) → Int → Nat
  | [], _ => 0
  | c :: cs, n => if (c.length : Int) ≤ n then bk cs (n - c.length) + 1 else 0
/-- The number of the least bound that is not below n (that of the end, if none is). -/
def ok : List (List UInt8) → Int → Nat
  | [], _ => 0
  | c :: cs, n => if n ≤ 0 then 0 else ok cs (n - c.length) + 1
end
end Go.Proofs.YteafcaambnfdoaaDoor
