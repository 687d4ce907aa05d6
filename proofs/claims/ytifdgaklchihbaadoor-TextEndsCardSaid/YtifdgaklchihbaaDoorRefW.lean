/-
  The document's own Of and Control.
-/
import Derived.Test.YtifdgaklchihbaaDoorRow
import Derived.Test.YtifdgaklchihbaaDoorCutMath
namespace Go.Proofs.YtifdgaklchihbaaDoor
open Go Go.RowKit

set_option maxHeartbeats 1000000 in
theorem between_calls (r lo hi : Int) (w : World) :
    Calls Tryd.prog 56 #[.int .i64 r, .int .i64 lo, .int .i64 hi] w fun e w' => e = .returned (.bool (decide (lo ≤ r ∧ r ≤ hi))) ∧ w = w' := by
  by_cases h1 : lo ≤ r
  · by_cases h2 : r ≤ hi
    · rw [decide_eq_true (show lo ≤ r ∧ r ≤ hi from ⟨h1, h2⟩)]
      go_enter Tryd.func56, Tryd.ntmps56
      go_wp2
      go_ret
      exact ⟨rfl, rfl⟩
    · rw [decide_eq_false (show ¬ (lo ≤ r ∧ r ≤ hi) from fun h => h2 h.2)]
      go_enter Tryd.func56, Tryd.ntmps56
      go_wp2
      go_ret
      exact ⟨rfl, rfl⟩
  · rw [decide_eq_false (show ¬ (lo ≤ r ∧ r ≤ hi) from fun h => h1 h.1)]
    go_enter Tryd.func56, Tryd.ntmps56
    go_wp2
    go_ret
    exact ⟨rfl, rfl⟩

set_option maxHeartbeats 8000000 in
set_option maxRecDepth 100000 in
theorem rof_calls (r : Int) (w : World) :
    Calls Tryd.prog 45 #[.int .i64 r] w fun e w' => e = .returned (.int .i64 (ofL r : Int)) ∧ w = w' := by
  have He : Hid (ofF spansL r = ofL r) := Lib.hid rfl
  generalize ofL r = x at *
  go_enter Tryd.func45, Tryd.ntmps45
  go_wp2_with (go_at_call 56; refine (between_calls _ _ _ _).mono ?_; rintro e w' ⟨rfl, rfl⟩)
  all_goals (go_ret; refine ⟨?_, rfl⟩; rw [← He.out]; simp only [spansL, ofF]; repeat first | rw [if_neg (by omega)] | rw [if_pos (by omega)])
  all_goals rfl

set_option maxHeartbeats 1000000 in
theorem rctl_calls (r : Int) (w : World) :
    Calls Tryd.prog 40 #[.int .i64 r] w fun e w' => e = .returned (.bool (ctlL r)) ∧ w = w' := by
  by_cases h1 : r ≤ 31
  · have e : ctlL r = true := decide_eq_true (.inl (by omega))
    rw [e]
    go_enter Tryd.func40, Tryd.ntmps40
    go_wp2
    go_ret
    exact ⟨rfl, rfl⟩
  by_cases h2 : 127 ≤ r
  · by_cases h3 : r ≤ 159
    · have e : ctlL r = true := decide_eq_true (.inr ⟨h2, h3⟩)
      rw [e]
      go_enter Tryd.func40, Tryd.ntmps40
      go_wp2
      go_ret
      exact ⟨rfl, rfl⟩
    · have e : ctlL r = false := decide_eq_false (by omega)
      rw [e]
      go_enter Tryd.func40, Tryd.ntmps40
      go_wp2
      go_ret
      exact ⟨rfl, rfl⟩
  · have e : ctlL r = false := decide_eq_false (by omega)
    rw [e]
    go_enter Tryd.func40, Tryd.ntmps40
    go_wp2
    go_ret
    exact ⟨rfl, rfl⟩
end Go.Proofs.YtifdgaklchihbaaDoor
