/-
  Layer 7 and what it stands on, part 47 (FileC1).
-/
import Derived.Test.YteafcaambnfdoaaGreatDoorPi27
import Derived.Test.YteafcaambnfdoaaGreatDoorPi46
namespace Go.Proofs.YteafcaambnfdoaaGreatDoor
section
open Go Go.RowKit
set_option maxRecDepth 100000
section
variable (w : World) (O D : Nat → Prop) (b : Nat) (S : FS) (h : FileAt w O D b S) (hS : S.Fit)
include h hS
theorem farm_calls (k : Int) (h1 : -9223372036854775808 ≤ k) (h2 : k ≤ 9223372036854775807) : Calls Tryz.prog 18 #[fp b, .int .i64 k] w fun e w' => e = .returned (.tuple #[]) ∧ FileTo w O D w' b (S.arm k) := by
 have _ := hS
 have k1 := h1
 have k2 := h2
 obtain ⟨lab, h1, h2, h3, h4⟩ := h
 refine (farm_at w lab b S h1 k k1 k2).mono ?_
 rintro e w' ⟨rfl, lab', m1, m2⟩
 exact ⟨rfl, m1.to_ h2 h3 h4 m2⟩
theorem ffault_calls (k : Int) (h1 : -9223372036854775808 ≤ k) (h2 : k ≤ 9223372036854775807) : Calls Tryz.prog 28 #[fp b, .int .i64 k] w fun e w' => e = .returned (.tuple #[]) ∧ FileTo w O D w' b (S.fault_ k) := by
 have _ := hS
 have k1 := h1
 have k2 := h2
 obtain ⟨lab, h1, h2, h3, h4⟩ := h
 refine (ffault_at w lab b S h1 k k1 k2).mono ?_
 rintro e w' ⟨rfl, lab', m1, m2⟩
 exact ⟨rfl, m1.to_ h2 h3 h4 m2⟩
theorem fops_calls : Calls Tryz.prog 17 #[fp b] w fun e w' => e = .returned (.int .i64 (S.ops : Int)) ∧ Below w.heap.size w w' := by
 have _ := hS
 obtain ⟨lab, h1, h2, h3, h4⟩ := h
 exact fops_at w lab b S h1
end
end
end Go.Proofs.YteafcaambnfdoaaGreatDoor
