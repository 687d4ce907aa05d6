/-
  Layer 7 and what it stands on, part 38 (FileC1).
-/
import Derived.Test.YteafcaambnfdoaaGreatDoorPn19
import Derived.Test.YteafcaambnfdoaaGreatDoorPn37
namespace Go.Proofs.YteafcaambnfdoaaGreatDoor
section
open Go Go.RowKit
set_option maxRecDepth 100000
section
variable (w : World) (O D : Nat → Prop) (b : Nat) (S : FS) (h : FileAt w O D b S) (hS : S.Fit)
include h hS
theorem fnames_calls : Calls Tryz.prog 15 #[fp b] w fun e w' => ∃ u, e = .returned u ∧ w'.ownsRow w.heap.size 9 1 u S.l.length (S.l.map fun f => .string f.name) ∧ Below w.heap.size w w' := by
  obtain ⟨lab, h1, h2, h3, h4⟩ := h
  exact fnames_at w lab b S h1 hS
theorem fops_calls : Calls Tryz.prog 17 #[fp b] w fun e w' => e = .returned (.int .i64 (S.ops : Int)) ∧ Below w.heap.size w w' := by
  have _ := hS
  obtain ⟨lab, h1, h2, h3, h4⟩ := h
  exact fops_at w lab b S h1
end
end
end Go.Proofs.YteafcaambnfdoaaGreatDoor
