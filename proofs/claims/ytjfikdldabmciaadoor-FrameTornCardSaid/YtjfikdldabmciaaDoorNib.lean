/-
  Steps by a table of 16, or of 256, of a number of 32 bits (layer 9).
-/
import Derived.Test.YtjfikdldabmciaaDoorU32
import Derived.Test.YtjfikdldabmciaaDoorMulMath
namespace Go.Proofs.YtjfikdldabmciaaDoor
open Go Go.RowKit
set_option maxRecDepth 100000

theorem u32_and_low (s : BitVec 32) (k : Nat) (hk : k ≤ 31) : bits .and .u32 (s.toNat : Int) ((2 ^ k - 1 : Nat) : Int) = ((s.toNat % 2 ^ k : Nat) : Int) := by
  have h1 : 2 ^ k ≤ 2 ^ 31 := Nat.pow_le_pow_right (by decide) hk
  rw [u32_and_nat _ _ s.isLt (by omega), Nat.and_two_pow_sub_one_eq_mod]
theorem u32_and15 (s : BitVec 32) : bits .and .u32 (s.toNat : Int) 15 = ((s.toNat % 16 : Nat) : Int) := u32_and_low s 4 (by decide)
theorem u32_and255 (s : BitVec 32) : bits .and .u32 (s.toNat : Int) 255 = ((s.toNat % 256 : Nat) : Int) := u32_and_low s 8 (by decide)
theorem low_bv (s : BitVec 32) (k : Nat) : BitVec.ofNat 32 (s.toNat % 2 ^ k) = s &&& BitVec.ofNat 32 (2 ^ k - 1) := by
  apply BitVec.eq_of_getLsbD_eq
  intro i hi
  rw [BitVec.getLsbD_ofNat, BitVec.getLsbD_and, BitVec.getLsbD_ofNat, Nat.testBit_mod_two_pow, Nat.testBit_two_pow_sub_one]
  by_cases h : i < k
  · simp [h, hi, BitVec.getLsbD]
  · simp [h]
/-- A table's entry for the k lowest bits, and the rest moved down: k steps. -/
theorem stp_tab (k : Nat) (hk : k ≤ 32) (s : BitVec 32) : stpN k (BitVec.ofNat 32 (s.toNat % 2 ^ k)) ^^^ (s >>> k) = stpN k s := by
  rw [low_bv, ← stp_low k hk]
theorem stp_tab' (k : Nat) (hk : k ≤ 32) (s : BitVec 32) : (s >>> k) ^^^ stpN k (BitVec.ofNat 32 (s.toNat % 2 ^ k)) = stpN k s := by
  rw [BitVec.xor_comm, stp_tab k hk]
theorem stpN_two (m n : Nat) (s : BitVec 32) : stpN n (stpN m s) = stpN (m + n) s := (stpN_add m n s).symm
/-- A byte comes in, by a table of 16, twice. -/
theorem fdB_nib (c : BitVec 32) (x : UInt8) : stpN 4 (stpN 4 (c ^^^ BitVec.ofNat 32 x.toNat)) = fdB c x := by
  rw [stpN_two]
  rfl
end Go.Proofs.YtjfikdldabmciaaDoor
