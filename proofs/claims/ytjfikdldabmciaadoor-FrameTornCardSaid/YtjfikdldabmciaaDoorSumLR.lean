/-
  Package sum's table of four steps, in memory (layer 9; that of powers: SumD).
-/
import Derived.Test.YtjfikdldabmciaaDoorSumD0
namespace Go.Proofs.YtjfikdldabmciaaDoor
open Go Go.RowKit

/-- The table of rests lies where the program's text lays it. -/
def LaysR (w : World) : Prop := ∀ i, i < 16 → w.cell? ⟨0, i, none⟩ = some (.int .u32 ((stpN 4 (BitVec.ofNat 32 i)).toNat : Int))
theorem LaysR.below {w w' : World} (h : LaysR w) {n : Nat} (hn : w.heap.size ≤ n) (hb : Below n w w') : LaysR w' :=
  fun i hi => by rw [hb.cell (Nat.lt_of_lt_of_le (World.block_lt_of_cell? _ _ (h i hi)) hn)]; exact h i hi
theorem LaysR.on {w w' : World} (h : LaysR w) (hb : Below w.heap.size w w') : LaysR w' := h.below (Nat.le_refl _) hb
end Go.Proofs.YtjfikdldabmciaaDoor
