/-
  Layer 7 and what it stands on, part 32 (WRdB).
-/
import Derived.Test.YtlmbafnoopfilaaGreatDoorPg18
import Derived.Test.YtlmbafnoopfilaaGreatDoorPg21
namespace Go.Proofs.YtlmbafnoopfilaaGreatDoor
section
open Go Go.RowKit
theorem bounds_rd (l : List UInt8) (hl : l.length ≤ 1099511627776) (w : World) (hsp : Spans w) :
    Calls Tryz.prog 27 #[.string (bs l)] w fun e w' => ∃ A c, e = .returned (.slice A (boundsL l).length c) ∧ Rd64 w' A (boundsL l) ∧ Below w.heap.size w w' := by
  refine (bounds_calls (bs l) (by rw [bs_size]; exact hl) w hsp).mono ?_
  rintro e w' ⟨v, rfl, hown, hb⟩
  rw [show (bs l).data.toList = l from rfl] at hown
  obtain ⟨A, c, rfl⟩ := own_form hown
  obtain ⟨hR, _, _, _⟩ := rd64_of_own hown
  exact ⟨A, c, rfl, hR, hb⟩
end
end Go.Proofs.YtlmbafnoopfilaaGreatDoor
