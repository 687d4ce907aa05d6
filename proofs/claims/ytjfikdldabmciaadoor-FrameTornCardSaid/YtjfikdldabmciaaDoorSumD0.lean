/-
  Package sum's tables, and what its answers are (layer 9). Numbers alone.
-/
import Derived.Test.YtjfikdldabmciaaDoorNib
namespace Go.Proofs.YtjfikdldabmciaaDoor
open Go Go.RowKit
set_option maxRecDepth 100000

def u32V (v : BitVec 32) : Value := .int .u32 (v.toNat : Int)
def byV (s : BitVec 32) (k : Nat) : Nat := s.toNat / 256 ^ k % 256
/-- What four bytes are, the lowest first. -/
def readN (b : List UInt8) : Nat := (b.getD 0 0).toNat + 256 * (b.getD 1 0).toNat + 65536 * (b.getD 2 0).toNat + 16777216 * (b.getD 3 0).toNat
def shfI (s : BitVec 32) (n : Int) : BitVec 32 := if n < 0 ∨ 1048576 < n then 0#32 else shfL s n.toNat
def joinI (a b : BitVec 32) (n : Int) : BitVec 32 := if n < 0 ∨ 1048576 < n then 0#32 else shfL a n.toNat ^^^ b

/-- The program's table of four steps. -/
def fours : List (BitVec 32) := [0x00000000#32, 0x1db71064#32, 0x3b6e20c8#32, 0x26d930ac#32, 0x76dc4190#32, 0x6b6b51f4#32, 0x4db26158#32, 0x5005713c#32, 0xedb88320#32, 0xf00f9344#32, 0xd6d6a3e8#32, 0xcb61b38c#32, 0x9b64c2b0#32, 0x86d3d2d4#32, 0xa00ae278#32, 0xbdbdf21c#32]
/-- The program's table of powers. -/
def pows : List (BitVec 32) := [0x00800000#32, 0x00008000#32, 0xedb88320#32, 0xb1e6b092#32, 0xa06a2517#32, 0xed627dae#32, 0x88d14467#32, 0xd7bbfe6a#32, 0xec447f11#32, 0x8e7ea170#32, 0x6427800e#32, 0x4d47bae0#32, 0x09fe548f#32, 0x83852d0f#32, 0x30362f1a#32, 0x7b5a9cc3#32, 0x31fec169#32, 0x9fec022a#32, 0x6c8dedc4#32, 0x15d6874d#32, 0x5fde7a4e#32]
theorem four_at : ∀ i : Fin 16, fours.getD i 0 = stpN 4 (BitVec.ofNat 32 i.val) := by decide +kernel
theorem pow_zero : pows.getD 0 0 = xN (2 ^ 0) := by decide +kernel
theorem pow_two : ∀ k : Fin 20, mulP (pows.getD k 0) (pows.getD k 0) = pows.getD (k.val + 1) 0 := by decide +kernel
theorem pow_at : ∀ k, k < 21 → pows.getD k 0 = xN (2 ^ k)
  | 0, _ => pow_zero
  | k + 1, h => by
    have h2 := pow_two ⟨k, by omega⟩
    simp only at h2
    rw [← h2, pow_at k (by omega), xN_mul]
    congr 1
    rw [Nat.pow_succ]
    omega

/-- A sum that is shifted by the k lowest bits of m. -/
def shK (s : BitVec 32) (m k : Nat) : BitVec 32 := mulP (xN (m % 2 ^ k)) s
theorem shK_z (s : BitVec 32) (m : Nat) : shK s m 0 = s := by
  unfold shK
  rw [Nat.pow_zero, Nat.mod_one, show xN 0 = oneP from rfl, mulP_comm, mulP_one]
theorem shK_s (s : BitVec 32) (m k : Nat) : shK s m (k + 1) = if m.testBit k then mulP (xN (2 ^ k)) (shK s m k) else shK s m k := by
  unfold shK
  have h2 : m % 2 ^ (k + 1) = m % 2 ^ k + 2 ^ k * (m / 2 ^ k % 2) := by rw [Nat.pow_succ, Nat.mod_mul]
  rw [h2, Nat.testBit_eq_decide_div_mod_eq]
  by_cases h : m / 2 ^ k % 2 = 1
  · rw [h, decide_eq_true rfl, if_pos rfl, ← mulP_assoc, xN_mul]
    congr 2
    omega
  · rw [show m / 2 ^ k % 2 = 0 by omega, decide_eq_false (by decide), if_neg (by simp)]
    simp
theorem shK_all (s : BitVec 32) (m : Nat) (h : m ≤ 1048576) : shK s m 21 = shfL s m := by
  unfold shK
  rw [shfL_mul, Nat.mod_eq_of_lt (by omega)]
theorem u32_bit (a : BitVec 32) (j : Nat) : (bits .and .u32 ((a.toNat : Int) / 2 ^ j) 1 == 1) = a.getLsbD j := by
  have e1 : (a.toNat : Int) / 2 ^ j = ((a.toNat / 2 ^ j : Nat) : Int) := by simp
  have hlt : a.toNat / 2 ^ j < 4294967296 := Nat.lt_of_le_of_lt (Nat.div_le_self _ _) a.isLt
  rw [e1, show (1 : Int) = ((1 : Nat) : Int) from rfl, u32_and_nat _ _ hlt (by decide), Nat.and_one_is_mod]
  show _ = a.toNat.testBit j
  rw [Nat.testBit_eq_decide_div_mod_eq]
  by_cases h : a.toNat / 2 ^ j % 2 = 1
  · rw [decide_eq_true h, h]; rfl
  · rw [decide_eq_false h]; exact beq_eq_false_iff_ne.2 (by omega)
theorem i64_and1 (n : Int) : bits .and .i64 n 1 = n % 2 := by
  have h1 : (BitVec.ofInt 64 1).toNat = 2 ^ 1 - 1 := by decide
  have key : (BitVec.ofInt 64 n &&& BitVec.ofInt 64 1).toNat = (n % ((2 ^ 64 : Nat) : Int)).toNat % 2 ^ 1 := by
    rw [BitVec.toNat_and, BitVec.toNat_ofInt, h1, Nat.and_two_pow_sub_one_eq_mod]
  show IntKind.i64.wrap ((BitVec.ofInt 64 n &&& BitVec.ofInt 64 1).toNat : Nat) = n % 2
  rw [key, IntKind.wrap_i64]
  omega
theorem i64_bit (m k : Nat) : (bits .and .i64 ((m : Int) / 2 ^ k) 1 == 1) = m.testBit k := by
  have e1 : (m : Int) / 2 ^ k = ((m / 2 ^ k : Nat) : Int) := by simp
  rw [i64_and1, e1, Nat.testBit_eq_decide_div_mod_eq]
  by_cases h : m / 2 ^ k % 2 = 1
  · rw [decide_eq_true h]; exact beq_iff_eq.2 (by omega)
  · rw [decide_eq_false h]; exact beq_eq_false_iff_ne.2 (by omega)
end Go.Proofs.YtjfikdldabmciaaDoor
