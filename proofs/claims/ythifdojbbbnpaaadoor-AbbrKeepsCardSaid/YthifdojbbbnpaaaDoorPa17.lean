/-
  Layer 7 and what it stands on, part 17 (CutsM).
-/
import Derived.Test.YthifdojbbbnpaaaDoorPa14
import Derived.Test.YthifdojbbbnpaaaDoorPa16
import Derived.Maps.AppendAt
namespace Go.Proofs.YthifdojbbbnpaaaDoor
section
open Go Go.RowKit Go.Shelf
attribute [local go_sem] Oper.semAt_some
/-- The clusters of a text, as texts. -/
def cutB (s : ByteArray) : List ByteArray := (cutL s.data.toList).map fun c => ⟨c.toArray⟩
theorem ownFrom_size {β : Type} (B k : Nat) : OwnFrom B (fun (_ : β) W => k ≤ W.heap.size) := fun _ _ _ _ hs hg _ => Nat.le_trans hs hg.size
theorem eachB_fst (s : ByteArray) : (eachB s).map (·.1) ++ [s.size] = boundsL s.data.toList := by
  rw [boundsL_each, ← Lib.size_eq]
  unfold eachB pcs
  rw [List.map_map]
  rfl
end
end Go.Proofs.YthifdojbbbnpaaaDoor
