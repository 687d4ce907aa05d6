/-
  The sum of nine digits (layer 9).
-/
import Derived.Test.YtonjlkakbboplaaDoorSumW
import Derived.Test.YtonjlkakbboplaaDoorSumB
namespace Go.Proofs.YtonjlkakbboplaaDoor
open Go
set_option maxRecDepth 100000
def dig9 : List UInt8 := [49, 50, 51, 52, 53, 54, 55, 56, 57]
theorem crc_dig9 : (crcL dig9).toNat = 3421780262 := by decide +kernel
theorem add_dig9 : addL (crcL (dig9.take 4)) (dig9.drop 4) = crcL dig9 := by rw [addL_crc, List.take_append_drop]
theorem join_dig9 : joinI (crcL (dig9.take 4)) (crcL (dig9.drop 4)) 5 = crcL dig9 := by
  unfold joinI
  rw [if_neg (by decide), show (5 : Int).toNat = (dig9.drop 4).length from rfl, crc_join, List.take_append_drop]
theorem by_dig9 : byV (crcL dig9) 0 = 38 ∧ byV (crcL dig9) 1 = 57 ∧ byV (crcL dig9) 2 = 244 ∧ byV (crcL dig9) 3 = 203 := by
  unfold byV
  rw [crc_dig9]
  decide
theorem shf_one : (shfI 1#32 0).toNat = 1 := by decide
theorem read_dig9 : readN [38, 57, 244, 203, 1] = 3421780262 := by decide
end Go.Proofs.YtonjlkakbboplaaDoor
