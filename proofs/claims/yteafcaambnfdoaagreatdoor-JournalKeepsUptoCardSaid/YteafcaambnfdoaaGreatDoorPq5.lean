/-
  Layer 7 and what it stands on, part 5 (Plain RefMath More CutMath TextMath TextMake SwapMath).
-/
import Derived.Lib.TrimUEq
import Derived.Lib.RuneBytes
import Derived.Lib.MapLaws
import Derived.Lib.QuoteLoop
namespace Go.Proofs.YteafcaambnfdoaaGreatDoor
section
open Go
def nums (l : List UInt8) : List Int := l.map fun b => (b.toNat : Int)
theorem nums_length (l : List UInt8) : (nums l).length = l.length := by simp [nums]
theorem nums_getD (l : List UInt8) (i : Nat) : (nums l).getD i 0 = ((l.getD i 0).toNat : Int) := by
 simp only [nums, List.getD, List.getElem?_map]
 cases l[i]? <;> simp
def nextL (l : List UInt8) : Nat × Nat := if l = [] then (0, 0) else Lib.decodeL l
theorem nextL_nil : nextL [] = (0, 0) := rfl
def runesF : Nat → List UInt8 → List Nat
 | 0, _ => []
 | f + 1, l => if l = [] then [] else (Lib.decodeL l).1 :: runesF f (l.drop (Lib.decodeL l).2)
def runes (l : List UInt8) : List Nat := runesF l.length l
theorem runesF_nil (f : Nat) : runesF f [] = [] := by cases f <;> simp [runesF]
theorem runesF_more : ∀ (f g : Nat) (l : List UInt8), l.length ≤ f → l.length ≤ g → runesF f l = runesF g l
 | 0, g, l, hf, _ => by
  obtain rfl : l = [] := List.eq_nil_of_length_eq_zero (by omega)
  rw [runesF_nil, runesF_nil]
 | f + 1, 0, l, _, hg => by
  obtain rfl : l = [] := List.eq_nil_of_length_eq_zero (by omega)
  rw [runesF_nil, runesF_nil]
 | f + 1, g + 1, l, hf, hg => by
  by_cases hl : l = []
  ·subst hl; rw [runesF_nil, runesF_nil]
  ·have hw := Lib.decodeL_width l
   have h0 : 0 < l.length := by cases l <;> simp_all
   have hd : (l.drop (Lib.decodeL l).2).length < l.length := by rw [List.length_drop]; omega
   simp only [runesF, if_neg hl]
   rw [runesF_more f g _ (by omega) (by omega)]
theorem runes_nil : runes [] = [] := rfl
theorem runes_step (l : List UInt8) (hl : l ≠ []) : runes l = (Lib.decodeL l).1 :: runes (l.drop (Lib.decodeL l).2) := by
 have hw := Lib.decodeL_width l
 obtain ⟨b, t, rfl⟩ : ∃ b t, l = b :: t := by cases l <;> simp_all
 show runesF (t.length + 1) _ = _
 simp only [runesF, if_neg hl, runes]
 rw [runesF_more t.length _ _ (by rw [List.length_drop]; simp; omega) (Nat.le_refl _)]
def cleanL (l : List UInt8) : List UInt8 := (runes l).flatMap fun (r : Nat) => Lib.encodeRune (r : Int)
def wholeL (l : List UInt8) : Bool :=
 decide (0 < l.length ∧ (Lib.firstT (l.getD 0 0).toNat % 8 ≤ l.length ∨
  (1 < l.length ∧ ((l.getD 1 0).toNat < Lib.accLo (Lib.firstT (l.getD 0 0).toNat / 16) ∨ Lib.accHi (Lib.firstT (l.getD 0 0).toNat / 16) < (l.getD 1 0).toNat)) ∨
  (2 < l.length ∧ ((l.getD 2 0).toNat < 128 ∨ 191 < (l.getD 2 0).toNat))))
theorem wholeL_nil : wholeL [] = false := rfl
def feedF : Nat → List UInt8 → List Nat × List UInt8
 | 0, l => ([], l)
 | f + 1, l => if wholeL l = true then ((Lib.decodeL l).1 :: (feedF f (l.drop (Lib.decodeL l).2)).1, (feedF f (l.drop (Lib.decodeL l).2)).2) else ([], l)
def feedL (l : List UInt8) : List Nat × List UInt8 := feedF l.length l
def Valid (r : Nat) : Prop := r < 55296 ∨ (57343 < r ∧ r ≤ 1114111)
theorem decodeL_valid (l : List UInt8) : Valid (Lib.decodeL l).1 := by
 rw [Lib.decodeL_N]
 exact Lib.decodeN_valid _ _ _ _ _ (UInt8.toNat_lt _)
theorem runesF_valid : ∀ (f : Nat) (l : List UInt8), ∀ r ∈ runesF f l, Valid r
 | 0, _, r, h => by simp [runesF] at h
 | f + 1, l, r, h => by
  by_cases hl : l = []
  ·simp [runesF, hl] at h
  ·simp only [runesF, if_neg hl, List.mem_cons] at h
   rcases h with h | h
   ·rw [h]; exact decodeL_valid l
   ·exact runesF_valid f _ r h
theorem runes_valid (l : List UInt8) : ∀ r ∈ runes l, Valid r := runesF_valid _ _
theorem runesF_length : ∀ (f : Nat) (l : List UInt8), (runesF f l).length ≤ l.length
 | 0, _ => by simp [runesF]
 | f + 1, l => by
  by_cases hl : l = []
  ·simp [runesF, hl]
  ·have hw := Lib.decodeL_width l
   have h0 : 0 < l.length := List.length_pos_iff.2 hl
   have := runesF_length f (l.drop (Lib.decodeL l).2)
   rw [List.length_drop] at this
   simp only [runesF, if_neg hl, List.length_cons]
   omega
theorem runes_length (l : List UInt8) : (runes l).length ≤ l.length := runesF_length _ _
end
section
open Go
theorem getD_map_u8 (zs : List Int) (h : ∀ x ∈ zs, 0 ≤ x ∧ x < 256) (i : Nat) (hi : i < zs.length) : ((((zs.map fun (x : Int) => x.toNat.toUInt8).getD i 0).toNat : Nat) : Int) = zs.getD i 0 := by
 have hm := h zs[i] (List.getElem_mem hi)
 simp [List.getD, hi]
 omega
theorem enc_length (r : Int) : (Lib.encodeRune r).length = (Lib.encodeRuneZ r).length := by simp [Lib.encodeRune]
theorem enc_getD (r : Int) (i : Nat) (hi : i < (Lib.encodeRuneZ r).length) : ((((Lib.encodeRune r).getD i 0).toNat : Nat) : Int) = (Lib.encodeRuneZ r).getD i 0 := getD_map_u8 _ (Lib.encodeRuneZ_byte r) i hi
def begL (l p : List UInt8) : Bool := decide (0 < p.length ∧ p.length ≤ l.length ∧ ∀ i, i < p.length → (l.getD i 0).toNat = (p.getD i 0).toNat)
def bytesL (r : Int) : List UInt8 := if r < 0 ∨ 1114111 < r ∨ (55296 ≤ r ∧ r ≤ 57343) then [] else Lib.encodeRune r
def lowL (l : List UInt8) (k : Nat) : Int := if k < l.length ∧ 128 ≤ (l.getD k 0).toNat ∧ (l.getD k 0).toNat ≤ 191 then ((l.getD k 0).toNat : Int) - 128 else -1
theorem lowL_bound (l : List UInt8) (k : Nat) : -1 ≤ lowL l k ∧ lowL l k ≤ 63 := by
 unfold lowL; split <;> omega
theorem bytesL_length (r : Int) : (bytesL r).length ≤ 4 := by
 unfold bytesL
 split
 ·simp
 ·rw [enc_length]; exact (Lib.encodeRuneZ_length r).2
theorem beg_iff (l : List UInt8) (r : Int) : begL l (bytesL r) = true ↔
  ¬ (r < 0 ∨ 1114111 < r ∨ (55296 ≤ r ∧ r ≤ 57343)) ∧
  ((r ≤ 127 ∧ 1 ≤ l.length ∧ ((l.getD 0 0).toNat : Int) = r) ∨
   (128 ≤ r ∧ r ≤ 2047 ∧ 2 ≤ l.length ∧ ((l.getD 0 0).toNat : Int) = 192 + r / 64 ∧ ((l.getD 1 0).toNat : Int) = 128 + r % 64) ∨
   (2048 ≤ r ∧ r ≤ 65535 ∧ 3 ≤ l.length ∧ ((l.getD 0 0).toNat : Int) = 224 + r / 4096 ∧ ((l.getD 1 0).toNat : Int) = 128 + r / 64 % 64 ∧ ((l.getD 2 0).toNat : Int) = 128 + r % 64) ∨
   (65536 ≤ r ∧ 4 ≤ l.length ∧ ((l.getD 0 0).toNat : Int) = 240 + r / 262144 ∧ ((l.getD 1 0).toNat : Int) = 128 + r / 4096 % 64 ∧ ((l.getD 2 0).toNat : Int) = 128 + r / 64 % 64 ∧ ((l.getD 3 0).toNat : Int) = 128 + r % 64)) := by
 by_cases hv : r < 0 ∨ 1114111 < r ∨ (55296 ≤ r ∧ r ≤ 57343)
 ·have e : bytesL r = [] := by simp only [bytesL]; rw [if_pos hv]
  rw [e]
  simp only [begL, decide_eq_true_eq]
  constructor
  ·intro h; simp at h
  ·intro h; exact absurd hv h.1
 ·have e : bytesL r = Lib.encodeRune r := by simp only [bytesL]; rw [if_neg hv]
  rw [e]
  have hg := enc_getD r
  have hl := enc_length r
  simp only [begL, decide_eq_true_eq, hl]
  have key : (∀ i, i < (Lib.encodeRuneZ r).length → (l.getD i 0).toNat = ((Lib.encodeRune r).getD i 0).toNat) ↔ ∀ i, i < (Lib.encodeRuneZ r).length → ((l.getD i 0).toNat : Int) = (Lib.encodeRuneZ r).getD i 0 := by
   constructor
   ·intro h i hi; rw [← hg i hi, h i hi]
   ·intro h i hi
    have := h i hi
    rw [← hg i hi] at this
    omega
  rw [key]
  clear key hg hl e
  by_cases h1 : r ≤ 127
  ·rw [Lib.encodeRuneZ_one (by omega) h1]
   simp only [List.length_cons, List.length_nil]
   constructor
   ·rintro ⟨_, h2, h3⟩
    have := h3 0 (by decide)
    simp only [List.getD_cons_zero] at this
    exact ⟨hv, .inl ⟨h1, by omega, this⟩⟩
   ·rintro ⟨_, h⟩
    refine ⟨by decide, by omega, fun i hi => ?_⟩
    obtain rfl : i = 0 := by omega
    simp only [List.getD_cons_zero]
    omega
  ·by_cases h2 : r ≤ 2047
   ·rw [Lib.encodeRuneZ_two (by omega) h2]
    simp only [List.length_cons, List.length_nil]
    constructor
    ·rintro ⟨_, h3, h4⟩
     have q0 := h4 0 (by decide)
     have q1 := h4 1 (by decide)
     simp only [List.getD_cons_zero, List.getD_cons_succ] at q0 q1
     exact ⟨hv, .inr (.inl ⟨by omega, h2, by omega, q0, q1⟩)⟩
    ·rintro ⟨_, h⟩
     refine ⟨by decide, by omega, fun i hi => ?_⟩
     have hi' : i = 0 ∨ i = 1 := by omega
     rcases hi' with rfl | rfl <;> simp only [List.getD_cons_zero, List.getD_cons_succ] <;> omega
   ·by_cases h3 : r ≤ 65535
    ·rw [Lib.encodeRuneZ_three (by omega)]
     simp only [List.length_cons, List.length_nil]
     constructor
     ·rintro ⟨_, h4, h5⟩
      have q0 := h5 0 (by decide)
      have q1 := h5 1 (by decide)
      have q2 := h5 2 (by decide)
      simp only [List.getD_cons_zero, List.getD_cons_succ] at q0 q1 q2
      exact ⟨hv, .inr (.inr (.inl ⟨by omega, h3, by omega, q0, q1, q2⟩))⟩
     ·rintro ⟨_, h⟩
      refine ⟨by decide, by omega, fun i hi => ?_⟩
      have hi' : i = 0 ∨ i = 1 ∨ i = 2 := by omega
      rcases hi' with rfl | rfl | rfl <;> simp only [List.getD_cons_zero, List.getD_cons_succ] <;> omega
    ·rw [Lib.encodeRuneZ_four (by omega) (by omega)]
     simp only [List.length_cons, List.length_nil]
     constructor
     ·rintro ⟨_, h4, h5⟩
      have q0 := h5 0 (by decide)
      have q1 := h5 1 (by decide)
      have q2 := h5 2 (by decide)
      have q3 := h5 3 (by decide)
      simp only [List.getD_cons_zero, List.getD_cons_succ] at q0 q1 q2 q3
      exact ⟨hv, .inr (.inr (.inr ⟨by omega, by omega, q0, q1, q2, q3⟩))⟩
     ·rintro ⟨_, h⟩
      refine ⟨by decide, by omega, fun i hi => ?_⟩
      have hi' : i = 0 ∨ i = 1 ∨ i = 2 ∨ i = 3 := by omega
      rcases hi' with rfl | rfl | rfl | rfl <;> simp only [List.getD_cons_zero, List.getD_cons_succ] <;> omega
theorem bytesL_len2 (r : Int) (h0 : 128 ≤ r) (h1 : r ≤ 2047) : (bytesL r).length = 2 := by
 simp only [bytesL]; rw [if_neg (by omega), enc_length, Lib.encodeRuneZ_two h0 h1]; rfl
theorem bytesL_len3 (r : Int) (hv : ¬ (55296 ≤ r ∧ r ≤ 57343)) (h0 : 2048 ≤ r) (h1 : r ≤ 65535) : (bytesL r).length = 3 := by
 simp only [bytesL]; rw [if_neg (by omega), enc_length, Lib.encodeRuneZ_three (by omega)]; rfl
theorem bytesL_len4 (r : Int) (h0 : 65536 ≤ r) (h1 : r ≤ 1114111) : (bytesL r).length = 4 := by
 simp only [bytesL]; rw [if_neg (by omega), enc_length, Lib.encodeRuneZ_four h0 h1]; rfl
def cand2 (l : List UInt8) : Int := 64 * (((l.getD 0 0).toNat : Int) - 192) + lowL l 1
def cand3 (l : List UInt8) : Int := 4096 * (((l.getD 0 0).toNat : Int) - 224) + 64 * lowL l 1 + lowL l 2
def cand4 (l : List UInt8) : Int := 262144 * (((l.getD 0 0).toNat : Int) - 240) + 4096 * lowL l 1 + 64 * lowL l 2 + lowL l 3
theorem next_of (l : List UInt8) (hl : 0 < l.length) (a b : Nat) (h : Lib.decodeN l.length (l.getD 0 0).toNat (l.getD 1 0).toNat (l.getD 2 0).toNat (l.getD 3 0).toNat = (a, b)) : nextL l = (a, b) := by
 have hne : l ≠ [] := List.length_pos_iff.1 hl
 simp only [nextL, if_neg hne]
 rw [Lib.decodeL_N, h]
set_option maxHeartbeats 2000000 in
theorem two_yes (l : List UInt8) (h0 : 192 ≤ (l.getD 0 0).toNat) (h1 : (l.getD 0 0).toNat < 224) (h : begL l (bytesL (cand2 l)) = true) : (bytesL (cand2 l)).length = 2 ∧ 0 ≤ cand2 l ∧ nextL l = ((cand2 l).toNat, 2) := by
 rw [beg_iff] at h
 have hb1 := (l.getD 1 0).toNat_lt
 unfold cand2 lowL at *
 refine ⟨bytesL_len2 _ ?_ ?_, ?_, ?_⟩
 ·split at * <;> omega
 ·split at * <;> omega
 ·split at * <;> omega
 ·refine next_of l (by omega) _ _ ?_
  unfold Lib.decodeN
  split at h
  ·rw [if_neg (by omega), if_pos (by omega), if_pos (by omega)]
   apply Prod.ext <;> simp only <;> omega
  ·omega
set_option maxHeartbeats 2000000 in
theorem two_no (l : List UInt8) (hl : 0 < l.length) (h0 : 192 ≤ (l.getD 0 0).toNat) (h1 : (l.getD 0 0).toNat < 224) (h : begL l (bytesL (cand2 l)) = false) : nextL l = (65533, 1) := by
 have h' : ¬ begL l (bytesL (cand2 l)) = true := by rw [h]; simp
 rw [beg_iff] at h'
 have hb1 := (l.getD 1 0).toNat_lt
 unfold cand2 lowL at *
 refine next_of l hl _ _ ?_
 unfold Lib.decodeN
 rw [if_neg (by omega)]
 by_cases hc : (l.getD 0 0).toNat / 32 = 6 ∧ 1 < l.length ∧ (l.getD 1 0).toNat / 64 = 2
 ·rw [if_pos hc]
  split at h'
  ·rw [if_neg (by omega)]
  ·omega
 ·rw [if_neg hc, if_neg (by omega), if_neg (by omega)]
set_option maxHeartbeats 4000000 in
theorem three_yes (l : List UInt8) (h0 : 224 ≤ (l.getD 0 0).toNat) (h1 : (l.getD 0 0).toNat < 240) (h2 : 0 ≤ lowL l 2) (h : begL l (bytesL (cand3 l)) = true) : (bytesL (cand3 l)).length = 3 ∧ 0 ≤ cand3 l ∧ nextL l = ((cand3 l).toNat, 3) := by
 rw [beg_iff] at h
 have hb1 := (l.getD 1 0).toNat_lt
 have hb2 := (l.getD 2 0).toNat_lt
 have hlow1 : lowL l 1 = ((l.getD 1 0).toNat : Int) - 128 ∧ 1 < l.length ∧ 128 ≤ (l.getD 1 0).toNat ∧ (l.getD 1 0).toNat ≤ 191 := by
  have hlb := lowL_bound l 1
  have hlb2 := lowL_bound l 2
  have hu : lowL l 1 = if 1 < l.length ∧ 128 ≤ (l.getD 1 0).toNat ∧ (l.getD 1 0).toNat ≤ 191 then ((l.getD 1 0).toNat : Int) - 128 else -1 := rfl
  unfold cand3 at h
  split at hu
  ·exact ⟨hu, by omega⟩
  ·exfalso
   generalize lowL l 2 = y2 at *
   rw [hu] at h
   omega
 have hlow2 : lowL l 2 = ((l.getD 2 0).toNat : Int) - 128 ∧ 2 < l.length ∧ 128 ≤ (l.getD 2 0).toNat ∧ (l.getD 2 0).toNat ≤ 191 := by
  have hu : lowL l 2 = if 2 < l.length ∧ 128 ≤ (l.getD 2 0).toNat ∧ (l.getD 2 0).toNat ≤ 191 then ((l.getD 2 0).toNat : Int) - 128 else -1 := rfl
  split at hu
  ·exact ⟨hu, by omega⟩
  ·omega
 have hc : cand3 l = 4096 * (((l.getD 0 0).toNat : Int) - 224) + 64 * (((l.getD 1 0).toNat : Int) - 128) + (((l.getD 2 0).toNat : Int) - 128) := by unfold cand3; rw [hlow1.1, hlow2.1]
 obtain ⟨_, g1, g2, g3⟩ := hlow1
 obtain ⟨_, g4, g5, g6⟩ := hlow2
 generalize cand3 l = r at *
 refine ⟨bytesL_len3 _ (by omega) (by omega) (by omega), by omega, ?_⟩
 refine next_of l (by omega) _ _ ?_
 unfold Lib.decodeN
 rw [if_neg (by omega), if_neg (by omega), if_pos (by omega), if_pos (by omega)]
 apply Prod.ext <;> simp only <;> omega
set_option maxHeartbeats 4000000 in
theorem three_no (l : List UInt8) (hl : 0 < l.length) (h0 : 224 ≤ (l.getD 0 0).toNat) (h1 : (l.getD 0 0).toNat < 240) (h : lowL l 2 < 0 ∨ begL l (bytesL (cand3 l)) = false) : nextL l = (65533, 1) := by
 have hb1 := (l.getD 1 0).toNat_lt
 have hb2 := (l.getD 2 0).toNat_lt
 refine next_of l hl _ _ ?_
 unfold Lib.decodeN
 rw [if_neg (by omega), if_neg (by omega)]
 by_cases hc : (l.getD 0 0).toNat / 16 = 14 ∧ (1 < l.length ∧ (l.getD 1 0).toNat / 64 = 2) ∧ (2 < l.length ∧ (l.getD 2 0).toNat / 64 = 2)
 ·rw [if_pos hc]
  have hlow1 : lowL l 1 = ((l.getD 1 0).toNat : Int) - 128 := by unfold lowL; rw [if_pos (by omega)]
  have hlow2 : lowL l 2 = ((l.getD 2 0).toNat : Int) - 128 := by unfold lowL; rw [if_pos (by omega)]
  have h' : ¬ begL l (bytesL (cand3 l)) = true := by
   rcases h with h | h
   ·rw [hlow2] at h; omega
   ·rw [h]; simp
  rw [beg_iff] at h'
  unfold cand3 at h'
  rw [hlow1, hlow2] at h'
  rw [if_neg (by omega)]
 ·rw [if_neg hc, if_neg (by omega)]
set_option maxHeartbeats 4000000 in
theorem four_yes (l : List UInt8) (h0 : 240 ≤ (l.getD 0 0).toNat) (h1 : (l.getD 0 0).toNat < 248) (h3 : 0 ≤ lowL l 3) (h : begL l (bytesL (cand4 l)) = true) : (bytesL (cand4 l)).length = 4 ∧ 0 ≤ cand4 l ∧ nextL l = ((cand4 l).toNat, 4) := by
 rw [beg_iff] at h
 have hb1 := (l.getD 1 0).toNat_lt
 have hb2 := (l.getD 2 0).toNat_lt
 have hb3 := (l.getD 3 0).toNat_lt
 have hlb1 := lowL_bound l 1
 have hlb2 := lowL_bound l 2
 have hlow3 : lowL l 3 = ((l.getD 3 0).toNat : Int) - 128 ∧ 3 < l.length ∧ 128 ≤ (l.getD 3 0).toNat ∧ (l.getD 3 0).toNat ≤ 191 := by
  have hu : lowL l 3 = if 3 < l.length ∧ 128 ≤ (l.getD 3 0).toNat ∧ (l.getD 3 0).toNat ≤ 191 then ((l.getD 3 0).toNat : Int) - 128 else -1 := rfl
  split at hu
  ·exact ⟨hu, by omega⟩
  ·omega
 have hlow1 : lowL l 1 = ((l.getD 1 0).toNat : Int) - 128 ∧ 1 < l.length ∧ 128 ≤ (l.getD 1 0).toNat ∧ (l.getD 1 0).toNat ≤ 191 := by
  have hu : lowL l 1 = if 1 < l.length ∧ 128 ≤ (l.getD 1 0).toNat ∧ (l.getD 1 0).toNat ≤ 191 then ((l.getD 1 0).toNat : Int) - 128 else -1 := rfl
  unfold cand4 at h
  split at hu
  ·exact ⟨hu, by omega⟩
  ·exfalso
   rw [hu] at h
   generalize lowL l 2 = y2 at *
   generalize lowL l 3 = y3 at *
   omega
 have hlow2 : lowL l 2 = ((l.getD 2 0).toNat : Int) - 128 ∧ 2 < l.length ∧ 128 ≤ (l.getD 2 0).toNat ∧ (l.getD 2 0).toNat ≤ 191 := by
  have hu : lowL l 2 = if 2 < l.length ∧ 128 ≤ (l.getD 2 0).toNat ∧ (l.getD 2 0).toNat ≤ 191 then ((l.getD 2 0).toNat : Int) - 128 else -1 := rfl
  unfold cand4 at h
  split at hu
  ·exact ⟨hu, by omega⟩
  ·exfalso
   rw [hu] at h
   generalize lowL l 1 = y1 at *
   generalize lowL l 3 = y3 at *
   omega
 have hc : cand4 l = 262144 * (((l.getD 0 0).toNat : Int) - 240) + 4096 * (((l.getD 1 0).toNat : Int) - 128) + 64 * (((l.getD 2 0).toNat : Int) - 128) + (((l.getD 3 0).toNat : Int) - 128) := by unfold cand4; rw [hlow1.1, hlow2.1, hlow3.1]
 obtain ⟨_, g1, g2, g3⟩ := hlow1
 obtain ⟨_, g4, g5, g6⟩ := hlow2
 obtain ⟨_, g7, g8, g9⟩ := hlow3
 generalize cand4 l = r at *
 refine ⟨bytesL_len4 _ (by omega) (by omega), by omega, ?_⟩
 refine next_of l (by omega) _ _ ?_
 unfold Lib.decodeN
 rw [if_neg (by omega), if_neg (by omega), if_neg (by omega), if_pos (by omega), if_pos (by omega)]
 apply Prod.ext <;> simp only <;> omega
set_option maxHeartbeats 4000000 in
theorem four_no (l : List UInt8) (hl : 0 < l.length) (h0 : 240 ≤ (l.getD 0 0).toNat) (h : (l.getD 0 0).toNat < 248 → lowL l 3 < 0 ∨ begL l (bytesL (cand4 l)) = false) : nextL l = (65533, 1) := by
 have hb0 := (l.getD 0 0).toNat_lt
 have hb1 := (l.getD 1 0).toNat_lt
 have hb2 := (l.getD 2 0).toNat_lt
 have hb3 := (l.getD 3 0).toNat_lt
 refine next_of l hl _ _ ?_
 unfold Lib.decodeN
 rw [if_neg (by omega), if_neg (by omega), if_neg (by omega)]
 by_cases hc : (l.getD 0 0).toNat / 8 = 30 ∧ (1 < l.length ∧ (l.getD 1 0).toNat / 64 = 2) ∧ (2 < l.length ∧ (l.getD 2 0).toNat / 64 = 2) ∧ (3 < l.length ∧ (l.getD 3 0).toNat / 64 = 2)
 ·rw [if_pos hc]
  have hlow1 : lowL l 1 = ((l.getD 1 0).toNat : Int) - 128 := by unfold lowL; rw [if_pos (by omega)]
  have hlow2 : lowL l 2 = ((l.getD 2 0).toNat : Int) - 128 := by unfold lowL; rw [if_pos (by omega)]
  have hlow3 : lowL l 3 = ((l.getD 3 0).toNat : Int) - 128 := by unfold lowL; rw [if_pos (by omega)]
  have h' : ¬ begL l (bytesL (cand4 l)) = true := by
   rcases h (by omega) with h | h
   ·rw [hlow3] at h; omega
   ·rw [h]; simp
  rw [beg_iff] at h'
  unfold cand4 at h'
  rw [hlow1, hlow2, hlow3] at h'
  rw [if_neg (by omega)]
 ·rw [if_neg hc]
theorem next_cont (l : List UInt8) (hl : 0 < l.length) (h0 : 128 ≤ (l.getD 0 0).toNat) (h1 : (l.getD 0 0).toNat < 192) : nextL l = (65533, 1) := by
 refine next_of l hl _ _ ?_
 unfold Lib.decodeN
 rw [if_neg (by omega), if_neg (by omega), if_neg (by omega), if_neg (by omega)]
theorem next_ascii (l : List UInt8) (hl : 0 < l.length) (h1 : (l.getD 0 0).toNat < 128) : nextL l = ((l.getD 0 0).toNat, 1) := by
 refine next_of l hl _ _ ?_
 unfold Lib.decodeN
 rw [if_pos h1]
end
section
open Go
def encL (rs : List Nat) : List UInt8 := rs.flatMap fun (r : Nat) => Lib.encodeRune (r : Int)
theorem cleanL_enc (l : List UInt8) : cleanL l = encL (runes l) := rfl
theorem encL_cons (r : Nat) (rs : List Nat) : encL (r :: rs) = Lib.encodeRune (r : Int) ++ encL rs := by simp [encL]
theorem encL_append (a b : List Nat) : encL (a ++ b) = encL a ++ encL b := by simp [encL]
theorem encL_length (rs : List Nat) : (encL rs).length ≤ 4 * rs.length := by
 induction rs with
 | nil => simp [encL]
 | cons r t ih =>
  have := Lib.runeCells_le (r : Int)
  rw [Lib.runeCells_length] at this
  rw [encL_cons, List.length_append, List.length_cons]
  omega
theorem getD_left (a b : List UInt8) (i : Nat) (h : i < a.length) : (a ++ b).getD i 0 = a.getD i 0 := by
 simp [List.getD, List.getElem?_append, h]
theorem dec_enc (r : Nat) (h : Valid r) (t : List UInt8) : Lib.decodeL (Lib.encodeRune (r : Int) ++ t) = (r, (Lib.encodeRune (r : Int)).length) := by
 unfold Valid at h
 have hl := enc_length (r : Int)
 have hg : ∀ i, i < (Lib.encodeRuneZ (r : Int)).length → ((((Lib.encodeRune (r : Int) ++ t).getD i 0).toNat : Nat) : Int) = (Lib.encodeRuneZ (r : Int)).getD i 0 := fun i hi => by
  rw [getD_left _ _ _ (by rw [hl]; exact hi)]; exact enc_getD (r : Int) i hi
 have hn : (Lib.encodeRune (r : Int) ++ t).length = (Lib.encodeRuneZ (r : Int)).length + t.length := by rw [List.length_append, hl]
 rw [Lib.decodeL_N, hn, hl]
 clear hn hl
 by_cases h1 : r ≤ 127
 ·have hZ := Lib.encodeRuneZ_one (r := (r : Int)) (by omega) (by omega)
  rw [hZ] at hg ⊢
  have q0 := hg 0 (by simp)
  simp only [List.getD_cons_zero] at q0
  clear hg
  generalize ((Lib.encodeRune (r : Int) ++ t).getD 0 0).toNat = b0 at *
  unfold Lib.decodeN
  rw [if_pos (by omega)]
  apply Prod.ext <;> simp only [List.length_cons, List.length_nil] <;> omega
 ·by_cases h2 : r ≤ 2047
  ·have hZ := Lib.encodeRuneZ_two (r := (r : Int)) (by omega) (by omega)
   rw [hZ] at hg ⊢
   have q0 := hg 0 (by simp)
   have q1 := hg 1 (by simp)
   simp only [List.getD_cons_zero, List.getD_cons_succ] at q0 q1
   clear hg
   generalize ((Lib.encodeRune (r : Int) ++ t).getD 0 0).toNat = b0 at *
   generalize ((Lib.encodeRune (r : Int) ++ t).getD 1 0).toNat = b1 at *
   simp only [List.length_cons, List.length_nil]
   unfold Lib.decodeN
   rw [if_neg (by omega), if_pos (by omega), if_pos (by omega)]
   apply Prod.ext <;> simp only <;> omega
  ·by_cases h3 : r ≤ 65535
   ·have hZ := Lib.encodeRuneZ_three (r := (r : Int)) (by omega)
    rw [hZ] at hg ⊢
    have q0 := hg 0 (by simp)
    have q1 := hg 1 (by simp)
    have q2 := hg 2 (by simp)
    simp only [List.getD_cons_zero, List.getD_cons_succ] at q0 q1 q2
    clear hg
    generalize ((Lib.encodeRune (r : Int) ++ t).getD 0 0).toNat = b0 at *
    generalize ((Lib.encodeRune (r : Int) ++ t).getD 1 0).toNat = b1 at *
    generalize ((Lib.encodeRune (r : Int) ++ t).getD 2 0).toNat = b2 at *
    simp only [List.length_cons, List.length_nil]
    unfold Lib.decodeN
    rw [if_neg (by omega), if_neg (by omega), if_pos (by omega), if_pos (by omega)]
    apply Prod.ext <;> simp only <;> omega
   ·have hZ := Lib.encodeRuneZ_four (r := (r : Int)) (by omega) (by omega)
    rw [hZ] at hg ⊢
    have q0 := hg 0 (by simp)
    have q1 := hg 1 (by simp)
    have q2 := hg 2 (by simp)
    have q3 := hg 3 (by simp)
    simp only [List.getD_cons_zero, List.getD_cons_succ] at q0 q1 q2 q3
    clear hg
    generalize ((Lib.encodeRune (r : Int) ++ t).getD 0 0).toNat = b0 at *
    generalize ((Lib.encodeRune (r : Int) ++ t).getD 1 0).toNat = b1 at *
    generalize ((Lib.encodeRune (r : Int) ++ t).getD 2 0).toNat = b2 at *
    generalize ((Lib.encodeRune (r : Int) ++ t).getD 3 0).toNat = b3 at *
    simp only [List.length_cons, List.length_nil]
    unfold Lib.decodeN
    rw [if_neg (by omega), if_neg (by omega), if_neg (by omega), if_pos (by omega), if_pos (by omega)]
    apply Prod.ext <;> simp only <;> omega
theorem runes_enc_append : ∀ (rs : List Nat), (∀ r ∈ rs, Valid r) → ∀ b : List UInt8, runes (encL rs ++ b) = rs ++ runes b
 | [], _, b => by simp [encL]
 | r :: rs, h, b => by
  have hl := Lib.runeCells_le (r : Int)
  rw [Lib.runeCells_length] at hl
  rw [encL_cons, List.append_assoc]
  have hne : Lib.encodeRune (r : Int) ++ (encL rs ++ b) ≠ [] := by
   intro h0
   have := congrArg List.length h0
   simp at this
   simp [this.1] at hl
  rw [runes_step _ hne, dec_enc r (h r (by simp)) _, List.drop_left, runes_enc_append rs (fun x hx => h x (by simp [hx])) b]
  simp
theorem runes_enc (rs : List Nat) (h : ∀ r ∈ rs, Valid r) : runes (encL rs) = rs := by
 have := runes_enc_append rs h []
 simpa [runes_nil] using this
theorem runes_clean (l : List UInt8) : runes (cleanL l) = runes l := runes_enc _ (runes_valid l)
theorem clean_length (l : List UInt8) : (cleanL l).length ≤ 4 * l.length := by
 have h1 := encL_length (runes l)
 have h2 := runes_length l
 rw [cleanL_enc]
 omega
inductive Bound (l : List UInt8) : Nat → Prop
 | zero : Bound l 0
 | step {k : Nat} : Bound l k → k < l.length → Bound l (k + (Lib.decodeL (l.drop k)).2)
end
section
open Go
def spansL : List (Int × Int × Nat) :=
 [(768, 879, 0), (6832, 6911, 0), (7616, 7679, 0), (8203, 8205, 0), (8400, 8447, 0), (65024, 65039, 0), (65056, 65071, 0),
  (4352, 4447, 2), (11904, 12350, 2), (12353, 42191, 2), (44032, 55203, 2), (63744, 64255, 2), (65072, 65135, 2), (65281, 65376, 2), (65504, 65510, 2), (127744, 129791, 2), (131072, 262141, 2)]
def ofF : List (Int × Int × Nat) → Int → Nat
 | [], _ => 1
 | x :: xs, r => if x.1 ≤ r ∧ r ≤ x.2.1 then x.2.2 else ofF xs r
def ofL (r : Int) : Nat := ofF spansL r
def ctlL (r : Int) : Bool := decide (r < 32 ∨ (127 ≤ r ∧ r ≤ 159))
def zlenF : Nat → List UInt8 → Nat
 | 0, _ => 0
 | f + 1, l => if l = [] ∨ ofL ((Lib.decodeL l).1 : Int) ≠ 0 then 0 else (Lib.decodeL l).2 + zlenF f (l.drop (Lib.decodeL l).2)
def zlen (l : List UInt8) : Nat := zlenF l.length l
theorem zlen_nil : zlen [] = 0 := rfl
def clen (l : List UInt8) : Nat := (Lib.decodeL l).2 + zlen (l.drop (Lib.decodeL l).2)
def cutF : Nat → List UInt8 → List (List UInt8)
 | 0, _ => []
 | f + 1, l => if l = [] then [] else l.take (clen l) :: cutF f (l.drop (clen l))
def cutL (l : List UInt8) : List (List UInt8) := cutF l.length l
theorem cutL_nil : cutL [] = [] := rfl
def cutFrom (cur l : List UInt8) : List (List UInt8) := (cur ++ l.take (zlen l)) :: cutL (l.drop (zlen l))
def wideL (c : List UInt8) : Nat := if c = [] then 0 else max 1 (ofL ((Lib.decodeL c).1 : Int))
def showL (c : List UInt8) : List UInt8 := if c = [] then [] else if ofL ((Lib.decodeL c).1 : Int) = 0 ∨ ctlL ((Lib.decodeL c).1 : Int) = true then [239, 191, 189] else cleanL c
def bnd : Nat → List (List UInt8) → List Nat
 | a, [] => [a]
 | a, c :: cs => a :: bnd (a + c.length) cs
def withAt : Nat → List (List UInt8) → List (Nat × List UInt8)
 | _, [] => []
 | a, c :: cs => (a, c) :: withAt (a + c.length) cs
def eachL (l : List UInt8) : List (Nat × List UInt8) := withAt 0 (cutL l)
def boundsL (l : List UInt8) : List Nat := bnd 0 (cutL l)
def wides (cs : List (List UInt8)) : Nat := (cs.map wideL).sum
def sumL (l : List UInt8) : Nat := wides (cutL l)
end
section
open Go
def plR (r : Nat) : List Nat := if r = 9 ∨ r = 10 ∨ r = 13 then [32] else if ctlL (r : Int) = true then [] else [r]
def plainL (l : List UInt8) : List UInt8 := encL ((runes l).flatMap plR)
def Fine (r : Nat) : Prop := Valid r ∧ ctlL (r : Int) = false
def PlainP (l : List UInt8) : Prop := ∃ rs, (∀ r ∈ rs, Fine r) ∧ l = encL rs
def Wid (y : List UInt8) : Prop := y = [] ∨ ofL ((Lib.decodeL y).1 : Int) ≠ 0
def pos (cs : List (List UInt8)) (k : Nat) : Nat := (cs.take k).flatten.length
theorem pos_zero (cs : List (List UInt8)) : pos cs 0 = 0 := rfl
def Full (cs : List (List UInt8)) : Prop := ∀ c ∈ cs, c ≠ []
def bk : List (List UInt8) → Int → Nat
 | [], _ => 0
 | c :: cs, n => if (c.length : Int) ≤ n then bk cs (n - c.length) + 1 else 0
def ok : List (List UInt8) → Int → Nat
 | [], _ => 0
 | c :: cs, n => if n ≤ 0 then 0 else ok cs (n - c.length) + 1
end
section
open Go
def backL (l : List UInt8) (n : Int) : Nat := pos (cutL l) (bk (cutL l) n)
def onL (l : List UInt8) (n : Int) : Nat := pos (cutL l) (ok (cutL l) n)
def IsB (l : List UInt8) (n : Nat) : Prop := ∃ k, k ≤ (cutL l).length ∧ n = pos (cutL l) k
def mS (l : List UInt8) : List UInt8 := (plainL l).take (backL (plainL l) 600)
def mA (l : List UInt8) (n : Int) : Nat := backL (mS l) n
def Rt (l : List UInt8) (n : Nat) : Prop := PlainP l ∧ l.length ≤ 600 ∧ IsB l n
def insS (l : List UInt8) (a : Nat) (p : List UInt8) : List UInt8 := l.take a ++ p ++ l.drop a
def insA (l : List UInt8) (a : Nat) (p : List UInt8) : Nat := onL (insS l a p) ((a + p.length : Nat) : Int)
def cutS (l : List UInt8) (f t : Nat) : List UInt8 := l.take f ++ l.drop t
def cutAt (a f t : Nat) : Nat := if f < a then max f (a - (t - f)) else a
def cutA (l : List UInt8) (a f t : Nat) : Nat := backL (cutS l f t) (cutAt a f t : Int)
def goneS (l : List UInt8) (f t : Nat) : List UInt8 := (l.drop f).take (t - f)
def cutR (m : List UInt8) (a : Nat) (f t : Nat) : List UInt8 × Nat × List UInt8 := if f < t then (cutS m f t, cutA m a f t, goneS m f t) else (m, a, [])
def prvL (l : List UInt8) (a : Nat) : Nat := backL l ((a : Int) - 1)
def nxtL (l : List UInt8) (a : Nat) : Nat := onL l ((a : Int) + 1)
theorem prvL_nat (l : List UInt8) (a : Nat) : prvL l a = backL l ((a : Int) - 1) := rfl
def wordR (r : Int) : Bool := decide ((97 ≤ r ∧ r ≤ 122) ∨ (65 ≤ r ∧ r ≤ 90) ∨ (48 ≤ r ∧ r ≤ 57) ∨ r = 95 ∨ 128 ≤ r)
def wordL (c : List UInt8) : Bool := wordR ((nextL c).1 : Int)
def skipN (w : Bool) : List (List UInt8) → Nat
 | [] => 0
 | c :: cs => if wordL c = w then skipN w cs + 1 else 0
def thrK (cs : List (List UInt8)) : Nat := skipN false cs + skipN true (cs.drop (skipN false cs))
def thrL (cs : List (List UInt8)) : Nat := pos cs (thrK cs)
def wlL (l : List UInt8) (a : Nat) : Nat := a - thrL (cutL (l.take a)).reverse
def wrL (l : List UInt8) (a : Nat) : Nat := a + thrL (cutL (l.drop a))
def swS (l : List UInt8) (f m t : Nat) : List UInt8 := l.take f ++ goneS l m t ++ goneS l f m ++ l.drop t
end
section
open Go
def swMid (m : List UInt8) (a : Nat) : Nat := if a = m.length then prvL m a else a
def swapR (m : List UInt8) (a : Nat) : List UInt8 × Nat × Bool :=
 if swMid m a = 0 then (m, a, false)
 else (swS m (prvL m (swMid m a)) (swMid m a) (nxtL m (swMid m a)), onL (swS m (prvL m (swMid m a)) (swMid m a) (nxtL m (swMid m a))) (nxtL m (swMid m a) : Int), true)
def swIdx (cs : List (List UInt8)) (k : Nat) : Nat := if k = cs.length then k - 1 else k
def swL (cs : List (List UInt8)) (j : Nat) : List (List UInt8) := (cs.set (j - 1) (cs.getD j [])).set j (cs.getD (j - 1) [])
end
end Go.Proofs.YteafcaambnfdoaaGreatDoor
