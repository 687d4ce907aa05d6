/-
  Sums as bytes, and read again (layer 9).
-/
import Derived.Test.YtjfikdldabmciaaDoorSumD0
namespace Go.Proofs.YtjfikdldabmciaaDoor
open Go
set_option maxRecDepth 100000
def bl4 (s : BitVec 32) : List UInt8 := [UInt8.ofNat (byV s 0), UInt8.ofNat (byV s 1), UInt8.ofNat (byV s 2), UInt8.ofNat (byV s 3)]
theorem byV_lt (s : BitVec 32) (k : Nat) : byV s k < 256 := Nat.mod_lt _ (by decide)
theorem by_nat (s : BitVec 32) (k : Nat) : (UInt8.ofNat (byV s k)).toNat = byV s k := by
  rw [UInt8.toNat_ofNat']
  exact Nat.mod_eq_of_lt (byV_lt s k)
theorem read_bl4 (s : BitVec 32) (l : List UInt8) : readN (bl4 s ++ l) = s.toNat := by
  unfold readN bl4
  simp only [List.cons_append, List.nil_append, List.getD_cons_zero, List.getD_cons_succ, by_nat]
  unfold byV
  have := s.isLt
  omega
theorem readN_lt (l : List UInt8) : readN l < 4294967296 := by
  unfold readN
  have h0 := (l.getD 0 0).toNat_lt
  have h1 := (l.getD 1 0).toNat_lt
  have h2 := (l.getD 2 0).toNat_lt
  have h3 := (l.getD 3 0).toNat_lt
  omega
theorem read_nat (l : List UInt8) : (BitVec.ofNat 32 (readN l)).toNat = readN l := by
  rw [BitVec.toNat_ofNat]
  exact Nat.mod_eq_of_lt (readN_lt l)
theorem by_read (l : List UInt8) : byV (BitVec.ofNat 32 (readN l)) 0 = (l.getD 0 0).toNat ∧ byV (BitVec.ofNat 32 (readN l)) 1 = (l.getD 1 0).toNat ∧ byV (BitVec.ofNat 32 (readN l)) 2 = (l.getD 2 0).toNat ∧ byV (BitVec.ofNat 32 (readN l)) 3 = (l.getD 3 0).toNat := by
  unfold byV
  rw [read_nat]
  unfold readN
  have h0 := (l.getD 0 0).toNat_lt
  have h1 := (l.getD 1 0).toNat_lt
  have h2 := (l.getD 2 0).toNat_lt
  have h3 := (l.getD 3 0).toNat_lt
  omega
end Go.Proofs.YtjfikdldabmciaaDoor
