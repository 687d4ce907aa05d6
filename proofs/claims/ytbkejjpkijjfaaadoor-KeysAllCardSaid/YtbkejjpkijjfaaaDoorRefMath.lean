/-
  Numbers: which bytes the candidates of two, three and four bytes have. No program is named here.
-/
import Derived.Test.YtbkejjpkijjfaaaDoorPlain
namespace Go.Proofs.YtbkejjpkijjfaaaDoor
open Go

theorem getD_map_u8 (zs : List Int) (h : ∀ x ∈ zs, 0 ≤ x ∧ x < 256) (i : Nat) (hi : i < zs.length) : ((((zs.map fun (x : Int) => x.toNat.toUInt8).getD i 0).toNat : Nat) : Int) = zs.getD i 0 := by
  have hm := h zs[i] (List.getElem_mem hi)
  simp [List.getD, hi]
  omega

theorem enc_length (r : Int) : (Lib.encodeRune r).length = (Lib.encodeRuneZ r).length := by simp [Lib.encodeRune]
theorem enc_getD (r : Int) (i : Nat) (hi : i < (Lib.encodeRuneZ r).length) : ((((Lib.encodeRune r).getD i 0).toNat : Nat) : Int) = (Lib.encodeRuneZ r).getD i 0 := getD_map_u8 _ (Lib.encodeRuneZ_byte r) i hi

/-- Does l begin with the bytes p, and are these some? -/
def begL (l p : List UInt8) : Bool := decide (0 < p.length ∧ p.length ≤ l.length ∧ ∀ i, i < p.length → (l.getD i 0).toNat = (p.getD i 0).toNat)
/-- The bytes of a code point that is a sign; nothing of others. -/
def bytesL (r : Int) : List UInt8 := if r < 0 ∨ 1114111 < r ∨ (55296 ≤ r ∧ r ≤ 57343) then [] else Lib.encodeRune r
/-- The last six bits of the byte at k, or -1. -/
def lowL (l : List UInt8) (k : Nat) : Int := if k < l.length ∧ 128 ≤ (l.getD k 0).toNat ∧ (l.getD k 0).toNat ≤ 191 then ((l.getD k 0).toNat : Int) - 128 else -1

theorem lowL_bound (l : List UInt8) (k : Nat) : -1 ≤ lowL l k ∧ lowL l k ≤ 63 := by
  unfold lowL; split <;> omega

theorem bytesL_length (r : Int) : (bytesL r).length ≤ 4 := by
  unfold bytesL
  split
  · simp
  · rw [enc_length]; exact (Lib.encodeRuneZ_length r).2

/-- What it is to begin with the bytes of r, in numbers. -/
theorem beg_iff (l : List UInt8) (r : Int) : begL l (bytesL r) = true ↔
    ¬ (r < 0 ∨ 1114111 < r ∨ (55296 ≤ r ∧ r ≤ 57343)) ∧
    ((r ≤ 127 ∧ 1 ≤ l.length ∧ ((l.getD 0 0).toNat : Int) = r) ∨
     (128 ≤ r ∧ r ≤ 2047 ∧ 2 ≤ l.length ∧ ((l.getD 0 0).toNat : Int) = 192 + r / 64 ∧ ((l.getD 1 0).toNat : Int) = 128 + r % 64) ∨
     (2048 ≤ r ∧ r ≤ 65535 ∧ 3 ≤ l.length ∧ ((l.getD 0 0).toNat : Int) = 224 + r / 4096 ∧ ((l.getD 1 0).toNat : Int) = 128 + r / 64 % 64 ∧ ((l.getD 2 0).toNat : Int) = 128 + r % 64) ∨
     (65536 ≤ r ∧ 4 ≤ l.length ∧ ((l.getD 0 0).toNat : Int) = 240 + r / 262144 ∧ ((l.getD 1 0).toNat : Int) = 128 + r / 4096 % 64 ∧ ((l.getD 2 0).toNat : Int) = 128 + r / 64 % 64 ∧ ((l.getD 3 0).toNat : Int) = 128 + r % 64)) := by
  by_cases hv : r < 0 ∨ 1114111 < r ∨ (55296 ≤ r ∧ r ≤ 57343)
  · have e : bytesL r = [] := by simp only [bytesL]; rw [if_pos hv]
    rw [e]
    simp only [begL, decide_eq_true_eq]
    constructor
    · intro h; simp at h
    · intro h; exact absurd hv h.1
  · have e : bytesL r = Lib.encodeRune r := by simp only [bytesL]; rw [if_neg hv]
    rw [e]
    have hg := enc_getD r
    have hl := enc_length r
    simp only [begL, decide_eq_true_eq, hl]
    have key : (∀ i, i < (Lib.encodeRuneZ r).length → (l.getD i 0).toNat = ((Lib.encodeRune r).getD i 0).toNat) ↔ ∀ i, i < (Lib.encodeRuneZ r).length → ((l.getD i 0).toNat : Int) = (Lib.encodeRuneZ r).getD i 0 := by
      constructor
      · intro h i hi; rw [← hg i hi, h i hi]
      · intro h i hi
        have := h i hi
        rw [← hg i hi] at this
        omega
    rw [key]
    clear key hg hl e
    by_cases h1 : r ≤ 127
    · rw [Lib.encodeRuneZ_one (by omega) h1]
      simp only [List.length_cons, List.length_nil]
      constructor
      · rintro ⟨_, h2, h3⟩
        have := h3 0 (by decide)
        simp only [List.getD_cons_zero] at this
        exact ⟨hv, .inl ⟨h1, by omega, this⟩⟩
      · rintro ⟨_, h⟩
        refine ⟨by decide, by omega, fun i hi => ?_⟩
        obtain rfl : i = 0 := by omega
        simp only [List.getD_cons_zero]
        omega
    · by_cases h2 : r ≤ 2047
      · rw [Lib.encodeRuneZ_two (by omega) h2]
        simp only [List.length_cons, List.length_nil]
        constructor
        · rintro ⟨_, h3, h4⟩
          have q0 := h4 0 (by decide)
          have q1 := h4 1 (by decide)
          simp only [List.getD_cons_zero, List.getD_cons_succ] at q0 q1
          exact ⟨hv, .inr (.inl ⟨by omega, h2, by omega, q0, q1⟩)⟩
        · rintro ⟨_, h⟩
          refine ⟨by decide, by omega, fun i hi => ?_⟩
          have hi' : i = 0 ∨ i = 1 := by omega
          rcases hi' with rfl | rfl <;> simp only [List.getD_cons_zero, List.getD_cons_succ] <;> omega
      · by_cases h3 : r ≤ 65535
        · rw [Lib.encodeRuneZ_three (by omega)]
          simp only [List.length_cons, List.length_nil]
          constructor
          · rintro ⟨_, h4, h5⟩
            have q0 := h5 0 (by decide)
            have q1 := h5 1 (by decide)
            have q2 := h5 2 (by decide)
            simp only [List.getD_cons_zero, List.getD_cons_succ] at q0 q1 q2
            exact ⟨hv, .inr (.inr (.inl ⟨by omega, h3, by omega, q0, q1, q2⟩))⟩
          · rintro ⟨_, h⟩
            refine ⟨by decide, by omega, fun i hi => ?_⟩
            have hi' : i = 0 ∨ i = 1 ∨ i = 2 := by omega
            rcases hi' with rfl | rfl | rfl <;> simp only [List.getD_cons_zero, List.getD_cons_succ] <;> omega
        · rw [Lib.encodeRuneZ_four (by omega) (by omega)]
          simp only [List.length_cons, List.length_nil]
          constructor
          · rintro ⟨_, h4, h5⟩
            have q0 := h5 0 (by decide)
            have q1 := h5 1 (by decide)
            have q2 := h5 2 (by decide)
            have q3 := h5 3 (by decide)
            simp only [List.getD_cons_zero, List.getD_cons_succ] at q0 q1 q2 q3
            exact ⟨hv, .inr (.inr (.inr ⟨by omega, by omega, q0, q1, q2, q3⟩))⟩
          · rintro ⟨_, h⟩
            refine ⟨by decide, by omega, fun i hi => ?_⟩
            have hi' : i = 0 ∨ i = 1 ∨ i = 2 ∨ i = 3 := by omega
            rcases hi' with rfl | rfl | rfl | rfl <;> simp only [List.getD_cons_zero, List.getD_cons_succ] <;> omega

theorem bytesL_len2 (r : Int) (h0 : 128 ≤ r) (h1 : r ≤ 2047) : (bytesL r).length = 2 := by
  simp only [bytesL]; rw [if_neg (by omega), enc_length, Lib.encodeRuneZ_two h0 h1]; rfl
theorem bytesL_len3 (r : Int) (hv : ¬ (55296 ≤ r ∧ r ≤ 57343)) (h0 : 2048 ≤ r) (h1 : r ≤ 65535) : (bytesL r).length = 3 := by
  simp only [bytesL]; rw [if_neg (by omega), enc_length, Lib.encodeRuneZ_three (by omega)]; rfl
theorem bytesL_len4 (r : Int) (h0 : 65536 ≤ r) (h1 : r ≤ 1114111) : (bytesL r).length = 4 := by
  simp only [bytesL]; rw [if_neg (by omega), enc_length, Lib.encodeRuneZ_four h0 h1]; rfl

/-- The candidates. -/
def cand2 (l : List UInt8) : Int := 64 * (((l.getD 0 0).toNat : Int) - 192) + lowL l 1
def cand3 (l : List UInt8) : Int := 4096 * (((l.getD 0 0).toNat : Int) - 224) + 64 * lowL l 1 + lowL l 2
def cand4 (l : List UInt8) : Int := 262144 * (((l.getD 0 0).toNat : Int) - 240) + 4096 * lowL l 1 + 64 * lowL l 2 + lowL l 3

theorem next_of (l : List UInt8) (hl : 0 < l.length) (a b : Nat) (h : Lib.decodeN l.length (l.getD 0 0).toNat (l.getD 1 0).toNat (l.getD 2 0).toNat (l.getD 3 0).toNat = (a, b)) : nextL l = (a, b) := by
  have hne : l ≠ [] := List.length_pos_iff.1 hl
  simp only [nextL, if_neg hne]
  rw [Lib.decodeL_N, h]

set_option maxHeartbeats 2000000 in
theorem two_yes (l : List UInt8) (h0 : 192 ≤ (l.getD 0 0).toNat) (h1 : (l.getD 0 0).toNat < 224) (h : begL l (bytesL (cand2 l)) = true) : (bytesL (cand2 l)).length = 2 ∧ 0 ≤ cand2 l ∧ nextL l = ((cand2 l).toNat, 2) := by
  rw [beg_iff] at h
  have hb1 := (l.getD 1 0).toNat_lt
  unfold cand2 lowL at *
  refine ⟨bytesL_len2 _ ?_ ?_, ?_, ?_⟩
  · split at * <;> omega
  · split at * <;> omega
  · split at * <;> omega
  · refine next_of l (by omega) _ _ ?_
    unfold Lib.decodeN
    split at h
    · rw [if_neg (by omega), if_pos (by omega), if_pos (by omega)]
      apply Prod.ext <;> simp only <;> omega
    · omega
set_option maxHeartbeats 2000000 in
theorem two_no (l : List UInt8) (hl : 0 < l.length) (h0 : 192 ≤ (l.getD 0 0).toNat) (h1 : (l.getD 0 0).toNat < 224) (h : begL l (bytesL (cand2 l)) = false) : nextL l = (65533, 1) := by
  have h' : ¬ begL l (bytesL (cand2 l)) = true := by rw [h]; simp
  rw [beg_iff] at h'
  have hb1 := (l.getD 1 0).toNat_lt
  unfold cand2 lowL at *
  refine next_of l hl _ _ ?_
  unfold Lib.decodeN
  rw [if_neg (by omega)]
  by_cases hc : (l.getD 0 0).toNat / 32 = 6 ∧ 1 < l.length ∧ (l.getD 1 0).toNat / 64 = 2
  · rw [if_pos hc]
    split at h'
    · rw [if_neg (by omega)]
    · omega
  · rw [if_neg hc, if_neg (by omega), if_neg (by omega)]

set_option maxHeartbeats 4000000 in
theorem three_yes (l : List UInt8) (h0 : 224 ≤ (l.getD 0 0).toNat) (h1 : (l.getD 0 0).toNat < 240) (h2 : 0 ≤ lowL l 2) (h : begL l (bytesL (cand3 l)) = true) : (bytesL (cand3 l)).length = 3 ∧ 0 ≤ cand3 l ∧ nextL l = ((cand3 l).toNat, 3) := by
  rw [beg_iff] at h
  have hb1 := (l.getD 1 0).toNat_lt
  have hb2 := (l.getD 2 0).toNat_lt
  have hlow1 : lowL l 1 = ((l.getD 1 0).toNat : Int) - 128 ∧ 1 < l.length ∧ 128 ≤ (l.getD 1 0).toNat ∧ (l.getD 1 0).toNat ≤ 191 := by
    have hlb := lowL_bound l 1
    have hlb2 := lowL_bound l 2
    have hu : lowL l 1 = if 1 < l.length ∧ 128 ≤ (l.getD 1 0).toNat ∧ (l.getD 1 0).toNat ≤ 191 then ((l.getD 1 0).toNat : Int) - 128 else -1 := rfl
    unfold cand3 at h
    split at hu
    · exact ⟨hu, by omega⟩
    · exfalso
      generalize lowL l 2 = y2 at *
      rw [hu] at h
      omega
  have hlow2 : lowL l 2 = ((l.getD 2 0).toNat : Int) - 128 ∧ 2 < l.length ∧ 128 ≤ (l.getD 2 0).toNat ∧ (l.getD 2 0).toNat ≤ 191 := by
    have hu : lowL l 2 = if 2 < l.length ∧ 128 ≤ (l.getD 2 0).toNat ∧ (l.getD 2 0).toNat ≤ 191 then ((l.getD 2 0).toNat : Int) - 128 else -1 := rfl
    split at hu
    · exact ⟨hu, by omega⟩
    · omega
  have hc : cand3 l = 4096 * (((l.getD 0 0).toNat : Int) - 224) + 64 * (((l.getD 1 0).toNat : Int) - 128) + (((l.getD 2 0).toNat : Int) - 128) := by unfold cand3; rw [hlow1.1, hlow2.1]
  obtain ⟨_, g1, g2, g3⟩ := hlow1
  obtain ⟨_, g4, g5, g6⟩ := hlow2
  generalize cand3 l = r at *
  refine ⟨bytesL_len3 _ (by omega) (by omega) (by omega), by omega, ?_⟩
  refine next_of l (by omega) _ _ ?_
  unfold Lib.decodeN
  rw [if_neg (by omega), if_neg (by omega), if_pos (by omega), if_pos (by omega)]
  apply Prod.ext <;> simp only <;> omega
set_option maxHeartbeats 4000000 in
theorem three_no (l : List UInt8) (hl : 0 < l.length) (h0 : 224 ≤ (l.getD 0 0).toNat) (h1 : (l.getD 0 0).toNat < 240) (h : lowL l 2 < 0 ∨ begL l (bytesL (cand3 l)) = false) : nextL l = (65533, 1) := by
  have hb1 := (l.getD 1 0).toNat_lt
  have hb2 := (l.getD 2 0).toNat_lt
  refine next_of l hl _ _ ?_
  unfold Lib.decodeN
  rw [if_neg (by omega), if_neg (by omega)]
  by_cases hc : (l.getD 0 0).toNat / 16 = 14 ∧ (1 < l.length ∧ (l.getD 1 0).toNat / 64 = 2) ∧ (2 < l.length ∧ (l.getD 2 0).toNat / 64 = 2)
  · rw [if_pos hc]
    have hlow1 : lowL l 1 = ((l.getD 1 0).toNat : Int) - 128 := by unfold lowL; rw [if_pos (by omega)]
    have hlow2 : lowL l 2 = ((l.getD 2 0).toNat : Int) - 128 := by unfold lowL; rw [if_pos (by omega)]
    have h' : ¬ begL l (bytesL (cand3 l)) = true := by
      rcases h with h | h
      · rw [hlow2] at h; omega
      · rw [h]; simp
    rw [beg_iff] at h'
    unfold cand3 at h'
    rw [hlow1, hlow2] at h'
    rw [if_neg (by omega)]
  · rw [if_neg hc, if_neg (by omega)]

set_option maxHeartbeats 4000000 in
theorem four_yes (l : List UInt8) (h0 : 240 ≤ (l.getD 0 0).toNat) (h1 : (l.getD 0 0).toNat < 248) (h3 : 0 ≤ lowL l 3) (h : begL l (bytesL (cand4 l)) = true) : (bytesL (cand4 l)).length = 4 ∧ 0 ≤ cand4 l ∧ nextL l = ((cand4 l).toNat, 4) := by
  rw [beg_iff] at h
  have hb1 := (l.getD 1 0).toNat_lt
  have hb2 := (l.getD 2 0).toNat_lt
  have hb3 := (l.getD 3 0).toNat_lt
  have hlb1 := lowL_bound l 1
  have hlb2 := lowL_bound l 2
  have hlow3 : lowL l 3 = ((l.getD 3 0).toNat : Int) - 128 ∧ 3 < l.length ∧ 128 ≤ (l.getD 3 0).toNat ∧ (l.getD 3 0).toNat ≤ 191 := by
    have hu : lowL l 3 = if 3 < l.length ∧ 128 ≤ (l.getD 3 0).toNat ∧ (l.getD 3 0).toNat ≤ 191 then ((l.getD 3 0).toNat : Int) - 128 else -1 := rfl
    split at hu
    · exact ⟨hu, by omega⟩
    · omega
  have hlow1 : lowL l 1 = ((l.getD 1 0).toNat : Int) - 128 ∧ 1 < l.length ∧ 128 ≤ (l.getD 1 0).toNat ∧ (l.getD 1 0).toNat ≤ 191 := by
    have hu : lowL l 1 = if 1 < l.length ∧ 128 ≤ (l.getD 1 0).toNat ∧ (l.getD 1 0).toNat ≤ 191 then ((l.getD 1 0).toNat : Int) - 128 else -1 := rfl
    unfold cand4 at h
    split at hu
    · exact ⟨hu, by omega⟩
    · exfalso
      rw [hu] at h
      generalize lowL l 2 = y2 at *
      generalize lowL l 3 = y3 at *
      omega
  have hlow2 : lowL l 2 = ((l.getD 2 0).toNat : Int) - 128 ∧ 2 < l.length ∧ 128 ≤ (l.getD 2 0).toNat ∧ (l.getD 2 0).toNat ≤ 191 := by
    have hu : lowL l 2 = if 2 < l.length ∧ 128 ≤ (l.getD 2 0).toNat ∧ (l.getD 2 0).toNat ≤ 191 then ((l.getD 2 0).toNat : Int) - 128 else -1 := rfl
    unfold cand4 at h
    split at hu
    · exact ⟨hu, by omega⟩
    · exfalso
      rw [hu] at h
      generalize lowL l 1 = y1 at *
      generalize lowL l 3 = y3 at *
      omega
  have hc : cand4 l = 262144 * (((l.getD 0 0).toNat : Int) - 240) + 4096 * (((l.getD 1 0).toNat : Int) - 128) + 64 * (((l.getD 2 0).toNat : Int) - 128) + (((l.getD 3 0).toNat : Int) - 128) := by unfold cand4; rw [hlow1.1, hlow2.1, hlow3.1]
  obtain ⟨_, g1, g2, g3⟩ := hlow1
  obtain ⟨_, g4, g5, g6⟩ := hlow2
  obtain ⟨_, g7, g8, g9⟩ := hlow3
  generalize cand4 l = r at *
  refine ⟨bytesL_len4 _ (by omega) (by omega), by omega, ?_⟩
  refine next_of l (by omega) _ _ ?_
  unfold Lib.decodeN
  rw [if_neg (by omega), if_neg (by omega), if_neg (by omega), if_pos (by omega), if_pos (by omega)]
  apply Prod.ext <;> simp only <;> omega
set_option maxHeartbeats 4000000 in
theorem four_no (l : List UInt8) (hl : 0 < l.length) (h0 : 240 ≤ (l.getD 0 0).toNat) (h : (l.getD 0 0).toNat < 248 → lowL l 3 < 0 ∨ begL l (bytesL (cand4 l)) = false) : nextL l = (65533, 1) := by
  have hb0 := (l.getD 0 0).toNat_lt
  have hb1 := (l.getD 1 0).toNat_lt
  have hb2 := (l.getD 2 0).toNat_lt
  have hb3 := (l.getD 3 0).toNat_lt
  refine next_of l hl _ _ ?_
  unfold Lib.decodeN
  rw [if_neg (by omega), if_neg (by omega), if_neg (by omega)]
  by_cases hc : (l.getD 0 0).toNat / 8 = 30 ∧ (1 < l.length ∧ (l.getD 1 0).toNat / 64 = 2) ∧ (2 < l.length ∧ (l.getD 2 0).toNat / 64 = 2) ∧ (3 < l.length ∧ (l.getD 3 0).toNat / 64 = 2)
  · rw [if_pos hc]
    have hlow1 : lowL l 1 = ((l.getD 1 0).toNat : Int) - 128 := by unfold lowL; rw [if_pos (by omega)]
    have hlow2 : lowL l 2 = ((l.getD 2 0).toNat : Int) - 128 := by unfold lowL; rw [if_pos (by omega)]
    have hlow3 : lowL l 3 = ((l.getD 3 0).toNat : Int) - 128 := by unfold lowL; rw [if_pos (by omega)]
    have h' : ¬ begL l (bytesL (cand4 l)) = true := by
      rcases h (by omega) with h | h
      · rw [hlow3] at h; omega
      · rw [h]; simp
    rw [beg_iff] at h'
    unfold cand4 at h'
    rw [hlow1, hlow2, hlow3] at h'
    rw [if_neg (by omega)]
  · rw [if_neg hc]
theorem next_cont (l : List UInt8) (hl : 0 < l.length) (h0 : 128 ≤ (l.getD 0 0).toNat) (h1 : (l.getD 0 0).toNat < 192) : nextL l = (65533, 1) := by
  refine next_of l hl _ _ ?_
  unfold Lib.decodeN
  rw [if_neg (by omega), if_neg (by omega), if_neg (by omega), if_neg (by omega)]
theorem next_ascii (l : List UInt8) (hl : 0 < l.length) (h1 : (l.getD 0 0).toNat < 128) : nextL l = ((l.getD 0 0).toNat, 1) := by
  refine next_of l hl _ _ ?_
  unfold Lib.decodeN
  rw [if_pos h1]
end Go.Proofs.YtbkejjpkijjfaaaDoor
