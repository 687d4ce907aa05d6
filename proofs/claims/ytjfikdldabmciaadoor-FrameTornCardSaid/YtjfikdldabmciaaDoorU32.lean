/-
  Numbers of 32 bits as the walks have them (layer 9).
-/
import Derived.Test.YtjfikdldabmciaaDoorCrcMath
import Derived.Test.YtjfikdldabmciaaDoorRow0
import Derived.Laws.BitsAllLaws
import Derived.IntWalk
namespace Go.Proofs.YtjfikdldabmciaaDoor
open Go Go.RowKit
set_option maxRecDepth 100000

theorem u32_xor_bv (a b : BitVec 32) : bits .xor .u32 (a.toNat : Int) (b.toNat : Int) = ((a ^^^ b).toNat : Int) := by
  rw [u32_xor_nat _ _ a.isLt b.isLt, BitVec.toNat_xor]
theorem u32_low (a : BitVec 32) : (bits .and .u32 (a.toNat : Int) 1 == 1) = a.getLsbD 0 := by
  rw [show (1 : Int) = ((1 : Nat) : Int) from rfl, u32_and_nat _ _ a.isLt (by decide), Nat.and_one_is_mod]
  show _ = a.toNat.testBit 0
  rw [Nat.testBit_eq_decide_div_mod_eq, Nat.pow_zero, Nat.div_one]
  by_cases h : a.toNat % 2 = 1
  · rw [decide_eq_true h, h]; rfl
  · rw [decide_eq_false h]; exact beq_eq_false_iff_ne.2 (by omega)
theorem u32_shr (a : BitVec 32) (k : Nat) : (a.toNat : Int) / 2 ^ k = ((a >>> k).toNat : Int) := by
  rw [BitVec.toNat_ushiftRight, Nat.shiftRight_eq_div_pow]
  simp
theorem u32_shr1 (a : BitVec 32) : (a.toNat : Int) / (2 : Int) = ((a >>> 1).toNat : Int) := u32_shr a 1
theorem u32_shr4 (a : BitVec 32) : (a.toNat : Int) / (16 : Int) = ((a >>> 4).toNat : Int) := u32_shr a 4
theorem u32_shr8 (a : BitVec 32) : (a.toNat : Int) / (256 : Int) = ((a >>> 8).toNat : Int) := u32_shr a 8
theorem u32_not (s : BitVec 32) : bits .xor .u32 IntKind.u32.max (s.toNat : Int) = ((~~~ s).toNat : Int) := by
  have h := u32_xor_bv (~~~ 0#32) s
  rw [show (((~~~ 0#32 : BitVec 32).toNat : Nat) : Int) = IntKind.u32.max from rfl] at h
  rw [h, BitVec.xor_comm, ← not_xor]
/-- Bits behind bits: a sum. -/
theorem u32_or_add (a b k : Nat) (ha : a < 2 ^ k) (hb : a + 2 ^ k * b < 4294967296) : bits .or .u32 (a : Int) ((b : Int) * ((2 ^ k : Nat) : Int)) = ((a + 2 ^ k * b : Nat) : Int) := by
  have e1 : (b : Int) * ((2 ^ k : Nat) : Int) = ((2 ^ k * b : Nat) : Int) := by rw [Int.natCast_mul, Int.mul_comm]
  rw [e1, u32_or_nat _ _ (by omega) (by omega), Nat.or_comm, ← Nat.two_pow_add_eq_or_of_lt ha, Nat.add_comm]
/-- The place in a table of 256: the lowest byte of a sum, and a byte. -/
def lowX (c : BitVec 32) (x : UInt8) : Nat := c.toNat % 256 ^^^ x.toNat
theorem lowX_lt (c : BitVec 32) (x : UInt8) : lowX c x < 256 := Nat.xor_lt_two_pow (n := 8) (Nat.mod_lt _ (by decide)) x.toNat_lt
theorem lowX_bits (c : BitVec 32) (x : UInt8) : bits .xor .u8 ((c.toNat : Int) % 256) (x.toNat : Int) = ((lowX c x : Nat) : Int) := by
  rw [show (c.toNat : Int) % 256 = ((c.toNat % 256 : Nat) : Int) by omega, u8_xor_nat _ _ (Nat.mod_lt _ (by decide)) x.toNat_lt]
  rfl
theorem lowX_bv (c : BitVec 32) (x : UInt8) : BitVec.ofNat 32 (lowX c x) = (c ^^^ BitVec.ofNat 32 x.toNat) &&& 255#32 := by
  apply BitVec.eq_of_getLsbD_eq
  intro i hi
  have h255 : ∀ j : Fin 32, (255#32).getLsbD j = decide (j.val < 8) := by decide
  rw [BitVec.getLsbD_ofNat, BitVec.getLsbD_and, BitVec.getLsbD_xor, BitVec.getLsbD_ofNat, h255 ⟨i, hi⟩]
  unfold lowX
  rw [Nat.testBit_xor, show (256 : Nat) = 2 ^ 8 from rfl, Nat.testBit_mod_two_pow]
  by_cases h8 : i < 8
  · simp [h8, hi, BitVec.getLsbD]
  · have : x.toNat.testBit i = false := Nat.testBit_lt_two_pow (Nat.lt_of_lt_of_le x.toNat_lt (Nat.pow_le_pow_right (n := 2) (i := 8) (by decide) (by omega)))
    simp [h8, this]
/-- A byte comes in, by the table of 256. -/
theorem fdB_tab (c : BitVec 32) (x : UInt8) : stpN 8 (BitVec.ofNat 32 (lowX c x)) ^^^ (c >>> 8) = fdB c x := by
  unfold fdB
  rw [stp8 (c ^^^ BitVec.ofNat 32 x.toNat), lowX_bv]
  congr 1
  apply BitVec.eq_of_getLsbD_eq
  intro i hi
  rw [BitVec.getLsbD_ushiftRight, BitVec.getLsbD_ushiftRight, BitVec.getLsbD_xor, BitVec.getLsbD_ofNat, Nat.testBit_lt_two_pow (Nat.lt_of_lt_of_le x.toNat_lt (Nat.pow_le_pow_right (n := 2) (i := 8) (by decide) (by omega))), Bool.and_false, Bool.xor_false]
theorem fdL_succ (n : BitVec 32) {b : List UInt8} {i : Nat} (hi : i < b.length) : fdL n (b.take (i + 1)) = fdB (fdL n (b.take i)) (b.getD i 0) := by
  rw [List.take_succ_eq_append_getElem hi, fdL_append, List.getD_eq_getElem?_getD, List.getElem?_eq_getElem hi]
  rfl
end Go.Proofs.YtjfikdldabmciaaDoor
