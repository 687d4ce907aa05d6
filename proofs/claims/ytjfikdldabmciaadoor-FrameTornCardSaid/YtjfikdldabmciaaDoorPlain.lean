/-
  Plain facts on bytes and signs, over lists alone: no program is named here.
-/
import Derived.Lib.TrimUEq
import Derived.Lib.RuneBytes
import Derived.Lib.MapLaws
import Derived.Lib.QuoteLoop
namespace Go.Proofs.YtjfikdldabmciaaDoor
open Go

/-- A list of bytes as numbers. -/
def nums (l : List UInt8) : List Int := l.map fun b => (b.toNat : Int)
theorem nums_length (l : List UInt8) : (nums l).length = l.length := by simp [nums]
theorem nums_getD (l : List UInt8) (i : Nat) : (nums l).getD i 0 = ((l.getD i 0).toNat : Int) := by
  simp only [nums, List.getD, List.getElem?_map]
  cases l[i]? <;> simp

/-- The first sign of a list of bytes, and how many bytes it has. -/
def nextL (l : List UInt8) : Nat × Nat := if l = [] then (0, 0) else Lib.decodeL l
theorem nextL_cons (b : UInt8) (t : List UInt8) : nextL (b :: t) = Lib.decodeL (b :: t) := by simp [nextL]
theorem nextL_nil : nextL [] = (0, 0) := rfl

def runesF : Nat → List UInt8 → List Nat
  | 0, _ => []
  | f + 1, l => if l = [] then [] else (Lib.decodeL l).1 :: runesF f (l.drop (Lib.decodeL l).2)
/-- All signs of a list of bytes. -/
def runes (l : List UInt8) : List Nat := runesF l.length l

theorem runesF_nil (f : Nat) : runesF f [] = [] := by cases f <;> simp [runesF]
theorem runesF_more : ∀ (f g : Nat) (l : List UInt8), l.length ≤ f → l.length ≤ g → runesF f l = runesF g l
  | 0, g, l, hf, _ => by
    obtain rfl : l = [] := List.eq_nil_of_length_eq_zero (by omega)
    rw [runesF_nil, runesF_nil]
  | f + 1, 0, l, _, hg => by
    obtain rfl : l = [] := List.eq_nil_of_length_eq_zero (by omega)
    rw [runesF_nil, runesF_nil]
  | f + 1, g + 1, l, hf, hg => by
    by_cases hl : l = []
    · subst hl; rw [runesF_nil, runesF_nil]
    · have hw := Lib.decodeL_width l
      have h0 : 0 < l.length := by cases l <;> simp_all
      have hd : (l.drop (Lib.decodeL l).2).length < l.length := by rw [List.length_drop]; omega
      simp only [runesF, if_neg hl]
      rw [runesF_more f g _ (by omega) (by omega)]
theorem runes_nil : runes [] = [] := rfl
theorem runes_step (l : List UInt8) (hl : l ≠ []) : runes l = (Lib.decodeL l).1 :: runes (l.drop (Lib.decodeL l).2) := by
  have hw := Lib.decodeL_width l
  obtain ⟨b, t, rfl⟩ : ∃ b t, l = b :: t := by cases l <;> simp_all
  show runesF (t.length + 1) _ = _
  simp only [runesF, if_neg hl, runes]
  rw [runesF_more t.length _ _ (by rw [List.length_drop]; simp; omega) (Nat.le_refl _)]

/-- The bytes of all signs. -/
def cleanL (l : List UInt8) : List UInt8 := (runes l).flatMap fun (r : Nat) => Lib.encodeRune (r : Int)
theorem cleanL_step (l : List UInt8) (hl : l ≠ []) : cleanL l = Lib.encodeRune ((Lib.decodeL l).1 : Int) ++ cleanL (l.drop (Lib.decodeL l).2) := by
  simp [cleanL, runes_step l hl]

theorem getD_take4 (l : List UInt8) (k : Nat) (h : k < 4) : (l.take 4).getD k 0 = l.getD k 0 := by
  simp [List.getD, h]
theorem decodeN_min (n b0 b1 b2 b3 : Nat) : Lib.decodeN (min 4 n) b0 b1 b2 b3 = Lib.decodeN n b0 b1 b2 b3 := by
  have c1 : (1 < min 4 n) = (1 < n) := propext ⟨fun h => by omega, fun h => by omega⟩
  have c2 : (2 < min 4 n) = (2 < n) := propext ⟨fun h => by omega, fun h => by omega⟩
  have c3 : (3 < min 4 n) = (3 < n) := propext ⟨fun h => by omega, fun h => by omega⟩
  simp only [Lib.decodeN, c1, c2, c3]
/-- Four bytes are enough to tell the first sign. -/
theorem decodeL_take (l : List UInt8) : Lib.decodeL (l.take 4) = Lib.decodeL l := by
  rw [Lib.decodeL_N, Lib.decodeL_N, getD_take4 l 0 (by decide), getD_take4 l 1 (by decide), getD_take4 l 2 (by decide), getD_take4 l 3 (by decide), List.length_take, decodeN_min]
theorem decodeL_le4 (l : List UInt8) : (Lib.decodeL l).2 ≤ 4 := by
  rw [Lib.decodeL_N]
  have := Lib.decodeN_shape l.length (l.getD 0 0).toNat (l.getD 1 0).toNat (l.getD 2 0).toNat (l.getD 3 0).toNat
  unfold Lib.decodeN
  repeat' split
  all_goals simp
/-- Can no bytes behind l change its first sign? By the tables of unicode/utf8. -/
def wholeL (l : List UInt8) : Bool :=
  decide (0 < l.length ∧ (Lib.firstT (l.getD 0 0).toNat % 8 ≤ l.length ∨
    (1 < l.length ∧ ((l.getD 1 0).toNat < Lib.accLo (Lib.firstT (l.getD 0 0).toNat / 16) ∨ Lib.accHi (Lib.firstT (l.getD 0 0).toNat / 16) < (l.getD 1 0).toNat)) ∨
    (2 < l.length ∧ ((l.getD 2 0).toNat < 128 ∨ 191 < (l.getD 2 0).toNat))))
theorem wholeL_nil : wholeL [] = false := rfl
theorem firstT_lt (b : Nat) : Lib.firstT b ≤ 255 ∧ Lib.firstT b % 8 ≤ 4 := by
  unfold Lib.firstT
  repeat' split
  all_goals decide

def feedF : Nat → List UInt8 → List Nat × List UInt8
  | 0, l => ([], l)
  | f + 1, l => if wholeL l = true then ((Lib.decodeL l).1 :: (feedF f (l.drop (Lib.decodeL l).2)).1, (feedF f (l.drop (Lib.decodeL l).2)).2) else ([], l)
/-- What is told of bytes as long as what waits is whole, and what waits then. -/
def feedL (l : List UInt8) : List Nat × List UInt8 := feedF l.length l
theorem wholeL_pos {l : List UInt8} (h : wholeL l = true) : l ≠ [] := by rintro rfl; simp [wholeL_nil] at h
theorem feedF_more : ∀ (f g : Nat) (l : List UInt8), l.length ≤ f → l.length ≤ g → feedF f l = feedF g l
  | 0, g, l, hf, _ => by
    obtain rfl : l = [] := List.eq_nil_of_length_eq_zero (by omega)
    cases g <;> simp [feedF, wholeL_nil]
  | f + 1, 0, l, _, hg => by
    obtain rfl : l = [] := List.eq_nil_of_length_eq_zero (by omega)
    simp [feedF, wholeL_nil]
  | f + 1, g + 1, l, hf, hg => by
    by_cases hw : wholeL l = true
    · have hwd := Lib.decodeL_width l
      have h0 : 0 < l.length := List.length_pos_iff.2 (wholeL_pos hw)
      have hd : (l.drop (Lib.decodeL l).2).length < l.length := by rw [List.length_drop]; omega
      simp only [feedF, if_pos hw]
      rw [feedF_more f g _ (by omega) (by omega)]
    · simp only [feedF, if_neg hw]
theorem feedL_step (l : List UInt8) (h : wholeL l = true) : feedL l = ((Lib.decodeL l).1 :: (feedL (l.drop (Lib.decodeL l).2)).1, (feedL (l.drop (Lib.decodeL l).2)).2) := by
  have hw := Lib.decodeL_width l
  obtain ⟨b, t, rfl⟩ : ∃ b t, l = b :: t := by
    have := wholeL_pos h
    cases l <;> simp_all
  show feedF (t.length + 1) _ = _
  simp only [feedF, if_pos h, feedL]
  rw [feedF_more t.length _ _ (by rw [List.length_drop]; simp; omega) (Nat.le_refl _)]
theorem feedL_stop (l : List UInt8) (h : wholeL l = false) : feedL l = ([], l) := by
  unfold feedL
  cases l.length <;> simp [feedF, h]

/-- Is it a code point that is a sign? -/
def Valid (r : Nat) : Prop := r < 55296 ∨ (57343 < r ∧ r ≤ 1114111)
theorem decodeL_valid (l : List UInt8) : Valid (Lib.decodeL l).1 := by
  rw [Lib.decodeL_N]
  exact Lib.decodeN_valid _ _ _ _ _ (UInt8.toNat_lt _)
theorem runesF_valid : ∀ (f : Nat) (l : List UInt8), ∀ r ∈ runesF f l, Valid r
  | 0, _, r, h => by simp [runesF] at h
  | f + 1, l, r, h => by
    by_cases hl : l = []
    · simp [runesF, hl] at h
    · simp only [runesF, if_neg hl, List.mem_cons] at h
      rcases h with h | h
      · rw [h]; exact decodeL_valid l
      · exact runesF_valid f _ r h
theorem runes_valid (l : List UInt8) : ∀ r ∈ runes l, Valid r := runesF_valid _ _
theorem runes_getD (l : List UInt8) (i : Nat) : (runes l).getD i 0 ≤ 1114111 := by
  by_cases h : i < (runes l).length
  · have hv := runes_valid l (runes l)[i] (List.getElem_mem h)
    unfold Valid at hv
    simp only [List.getD, List.getElem?_eq_getElem h, Option.getD_some]
    omega
  · simp [List.getD, h]
theorem runesF_length : ∀ (f : Nat) (l : List UInt8), (runesF f l).length ≤ l.length
  | 0, _ => by simp [runesF]
  | f + 1, l => by
    by_cases hl : l = []
    · simp [runesF, hl]
    · have hw := Lib.decodeL_width l
      have h0 : 0 < l.length := List.length_pos_iff.2 hl
      have := runesF_length f (l.drop (Lib.decodeL l).2)
      rw [List.length_drop] at this
      simp only [runesF, if_neg hl, List.length_cons]
      omega
theorem runes_length (l : List UInt8) : (runes l).length ≤ l.length := runesF_length _ _
end Go.Proofs.YtjfikdldabmciaaDoor
