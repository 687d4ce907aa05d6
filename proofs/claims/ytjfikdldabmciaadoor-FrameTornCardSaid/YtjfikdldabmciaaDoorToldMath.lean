/-
  Bits that are turned in bytes (layer 9): lists alone.
-/
import Derived.Test.YtjfikdldabmciaaDoorCrcMath
namespace Go.Proofs.YtjfikdldabmciaaDoor
set_option maxRecDepth 100000

def turn1 (b : List UInt8) (a : Nat) : List UInt8 := b.set (a / 8) (b.getD (a / 8) 0 ^^^ UInt8.ofNat (2 ^ (a % 8)))
theorem turn1_length (b : List UInt8) (a : Nat) : (turn1 b a).length = b.length := by unfold turn1; rw [List.length_set]
theorem bit_pow (k i : Nat) (hk : k < 8) : (UInt8.ofNat (2 ^ k)).toNat.testBit i = decide (i = k) := by
  have : 2 ^ k < 256 := by
    have : 2 ^ k ≤ 2 ^ 7 := Nat.pow_le_pow_right (by decide) (by omega)
    omega
  rw [UInt8.toNat_ofNat', Nat.mod_eq_of_lt this, Nat.testBit_two_pow]
  exact decide_eq_decide.2 ⟨fun h => h.symm, fun h => h.symm⟩
theorem turn1_bits (b : List UInt8) (a : Nat) (ha : a < 8 * b.length) (i : Nat) : (bitsL (turn1 b a))[i]? = ((bitsL b)[i]?).map fun q => q ^^ decide (i = a) := by
  rw [bitsL_get, bitsL_get]
  unfold turn1
  have h8 : a / 8 < b.length := by omega
  by_cases hi : i / 8 = a / 8
  · rw [hi, List.getElem?_set_self h8, List.getD_eq_getElem?_getD, List.getElem?_eq_getElem h8]
    simp only [Option.map_some, Option.getD_some, UInt8.toNat_xor, Nat.testBit_xor]
    rw [bit_pow _ _ (by omega)]
    congr 2
    exact decide_eq_decide.2 ⟨fun h => by omega, fun h => by omega⟩
  · rw [List.getElem?_set_ne (fun e => hi e.symm), Option.map_map]
    have hne : i ≠ a := fun e => hi (by rw [e])
    congr 1
    funext x
    simp [hne]
/-- What bytes are when each bit that the mask tells, of the first k, is turned, from the bit n on. -/
def turnsL (b : List UInt8) (n : Nat) (mask : BitVec 32) (k : Nat) : List UInt8 := (List.range k).foldl (fun c j => if mask.getLsbD j then turn1 c (n + j) else c) b
theorem turnsL_s (b : List UInt8) (n : Nat) (mask : BitVec 32) (k : Nat) : turnsL b n mask (k + 1) = if mask.getLsbD k then turn1 (turnsL b n mask k) (n + k) else turnsL b n mask k := by
  unfold turnsL
  rw [List.range_succ, List.foldl_append]
  rfl
theorem turnsL_length (b : List UInt8) (n : Nat) (mask : BitVec 32) : ∀ k, (turnsL b n mask k).length = b.length
  | 0 => rfl
  | k + 1 => by
    rw [turnsL_s]
    split
    · rw [turn1_length, turnsL_length b n mask k]
    · exact turnsL_length b n mask k
theorem turnsL_bits (b : List UInt8) (n : Nat) (mask : BitVec 32) : ∀ k, (∀ j, j < k → mask.getLsbD j = true → n + j < 8 * b.length) → ∀ i, (bitsL (turnsL b n mask k))[i]? = ((bitsL b)[i]?).map fun q => q ^^ (decide (n ≤ i) && decide (i - n < k) && mask.getLsbD (i - n))
  | 0, _, i => by
    show (bitsL b)[i]? = _
    simp
  | k + 1, h, i => by
    have ih := turnsL_bits b n mask k (fun j hj => h j (by omega))
    rw [turnsL_s]
    cases hm : mask.getLsbD k
    · rw [if_neg (by simp), ih i]
      congr 1
      funext q
      congr 1
      by_cases hik : i - n = k
      · rw [hik, hm]; simp
      · have : decide (i - n < k) = decide (i - n < k + 1) := decide_eq_decide.2 ⟨fun h => by omega, fun h => by omega⟩
        rw [this]
    · rw [if_pos rfl, turn1_bits _ _ (by rw [turnsL_length]; exact h k (by omega) hm), ih i, Option.map_map]
      congr 1
      funext q
      simp only [Function.comp_apply]
      rw [Bool.xor_assoc]
      congr 1
      by_cases hik : i = n + k
      · subst hik
        have e1 : n + k - n = k := by omega
        rw [e1, hm]
        simp
      · by_cases hn : n ≤ i
        · have : decide (i - n < k) = decide (i - n < k + 1) := decide_eq_decide.2 ⟨fun h => by omega, fun h => by omega⟩
          rw [this]
          simp [hik]
        · simp [hn, hik]
theorem told_turns (b : List UInt8) (n : Nat) (mask : BitVec 32) (hmask : mask ≠ 0#32) (hin : ∀ j, j < 32 → mask.getLsbD j = true → n + j < 8 * b.length) : crcL (turnsL b n mask 32) ≠ crcL b := by
  have hn : n < 8 * b.length := by
    apply Classical.byContradiction
    intro hge
    apply hmask
    apply BitVec.eq_of_getLsbD_eq
    intro i hi
    rw [BitVec.getLsbD_zero]
    cases h : mask.getLsbD i
    · rfl
    · have := hin i hi h
      omega
  have hlen : ((rowV mask).take (8 * b.length - n)).length = min (8 * b.length - n) 32 := by rw [List.length_take, rowV_length]
  have hget : ∀ i, i < 32 → ((rowV mask).take (8 * b.length - n)).getD i false = mask.getLsbD i := by
    intro i hi
    rw [List.getD_eq_getElem?_getD, List.getElem?_take]
    split
    · unfold rowV; simp [hi]
    · rename_i h
      cases hb : mask.getLsbD i
      · rfl
      · have := hin i hi hb
        omega
  refine crc_told b _ n ((rowV mask).take (8 * b.length - n)) (by omega) ?_ (8 * b.length - n - min (8 * b.length - n) 32) (by omega) ?_
  · intro e
    apply hmask
    apply BitVec.eq_of_getLsbD_eq
    intro i hi
    rw [← hget i hi, ← wv_bit _ _ hi, e]
  · apply List.ext_getElem?
    intro i
    rw [turnsL_bits b n mask 32 hin i, List.getElem?_zipWith]
    have hbl := bitsL_length b
    by_cases hib : i < 8 * b.length
    · rw [List.getElem?_eq_getElem (by omega)]
      have hpl : (List.replicate n false ++ (rowV mask).take (8 * b.length - n) ++ List.replicate (8 * b.length - n - min (8 * b.length - n) 32) false).length = 8 * b.length := by
        rw [List.length_append, List.length_append, List.length_replicate, List.length_replicate, hlen]; omega
      have hp : (List.replicate n false ++ (rowV mask).take (8 * b.length - n) ++ List.replicate (8 * b.length - n - min (8 * b.length - n) 32) false)[i]? = some (decide (n ≤ i) && decide (i - n < 32) && mask.getLsbD (i - n)) := by
        by_cases h1 : i < n
        · rw [List.append_assoc, List.getElem?_append_left (by rw [List.length_replicate]; exact h1), List.getElem?_replicate, if_pos h1]
          simp [show ¬ n ≤ i by omega]
        · rw [List.append_assoc, List.getElem?_append_right (by rw [List.length_replicate]; omega), List.length_replicate]
          by_cases h2 : i - n < 32
          · have h3 : i - n < ((rowV mask).take (8 * b.length - n)).length := by omega
            have := hget (i - n) h2
            rw [List.getD_eq_getElem?_getD, List.getElem?_eq_getElem h3, Option.getD_some] at this
            rw [List.getElem?_append_left h3, List.getElem?_eq_getElem h3, this]
            simp [show n ≤ i by omega, h2]
          · rw [List.getElem?_append_right (by omega), List.getElem?_replicate, if_pos (by omega)]
            simp [h2]
      rw [hp]
      rfl
    · rw [List.getElem?_eq_none (by omega)]
      simp
end Go.Proofs.YtjfikdldabmciaaDoor
