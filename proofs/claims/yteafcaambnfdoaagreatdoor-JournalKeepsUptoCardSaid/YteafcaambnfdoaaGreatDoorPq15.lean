/-
  Layer 7 and what it stands on, part 15 (ArgByt).
-/
import Derived.Test.YteafcaambnfdoaaGreatDoorPq9
import Derived.ProofKit
import Derived.OpenShut
import Derived.ChangeMaps5
import Derived.Deep.DeepHandedRow
import Derived.Lib.SlBytesRowKit
namespace Go.Proofs.YteafcaambnfdoaaGreatDoor
section
open Go Go.RowKit Go.ChangeShapes Go.WideShapes Go.ChangeAt
set_option maxRecDepth 100000
theorem cellsU8 : Tryz.prog.cellsOf 5 = 1 := by kernel_rfl
theorem toNat_nums {xs : List Int} (h : ∀ x ∈ xs, 0 ≤ x ∧ x < 256) : nums (xs.map fun x => UInt8.ofNat x.toNat) = xs := by
 unfold nums
 rw [List.map_map]
 conv => rhs; rw [← List.map_id xs]
 refine List.map_congr_left fun x hx => ?_
 have := h x hx
 simp
 omega
theorem opened_byt {H : Type} {enc : TypeId × Value → H} {W : World} {a0 : Option Addr} {len cap : Nat} {d0 : DataW H} {p : List MemPlace}
  (h0 : DataW.Trod enc Tryz.prog W 0 (fun _ => true) true 30 (.slice a0 len cap) d0 p) :
  ∃ l : List UInt8, l.length = len ∧ len ≤ cap ∧ cap ≤ maxLen ∧ Byt W a0 l ∧ (a0 = none → cap = 0) := by
 have hmax : cap ≤ maxLen := by
  obtain ⟨fuel, hf⟩ := h0
  rcases open_ints Tryz.underlying30 Tryz.underlying5 cellsU8 hf with ⟨hcs, _⟩ | ⟨a, len', cap', zs, hcs, _, hl, hm, _⟩
  ·simp [Value.cells] at hcs
   obtain ⟨_, _, rfl⟩ := hcs
   unfold maxLen; omega
  ·simp [Value.cells] at hcs
   obtain ⟨_, _, rfl⟩ := hcs
   exact hm
 obtain ⟨xs, hx, hlc, hB, _, hby, hnil⟩ := opened_bytes Tryz.underlying30 Tryz.underlying5 cellsU8 h0
 refine ⟨xs.map fun x => UInt8.ofNat x.toNat, by simp [hx], hlc, hmax, ?_, hnil⟩
 unfold Byt
 rw [toNat_nums hby]
 simpa [hx] using hB
end
end Go.Proofs.YteafcaambnfdoaaGreatDoor
