/-
  Layer 7 and what it stands on, part 1 (RLaid).
-/
import Derived.Test.YtaeiffpdnlejbaaRows
import Derived.ProofKit
import Derived.OpenShut
import Derived.ChangeMaps5
import Derived.Deep.DeepHandedRow
import Derived.PinnedBridge
namespace Go.Proofs.Ytaeiffpdnlejbaa
section
open Go Go.RowKit Go.ChangeShapes Go.WideShapes Go.ChangeAt
theorem own : ownKnob Try.prog.godebug = none := by kernel_rfl
theorem laidOut : laidOutB Try.prog = true := by kernel_rfl
abbrev laidList : List (String × DataW Unit) := []
/-- A world for the witnesses. -/
noncomputable def laidWorld (os : Os) : World := World.holding Try.prog os ⟨#[], #[], []⟩
end
end Go.Proofs.Ytaeiffpdnlejbaa
