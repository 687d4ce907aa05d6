/-
  width.Control: what the call comes to, in any memory.
-/
import Derived.Test.YtbkejjpkijjfaaaDoorRow
import Derived.Test.YtbkejjpkijjfaaaDoorCutMath
namespace Go.Proofs.YtbkejjpkijjfaaaDoor
open Go Go.RowKit

set_option maxHeartbeats 1000000 in
theorem ctl_calls (r : Int) (w : World) (hr0 : -2147483648 ≤ r) (hr1 : r ≤ 2147483647) :
    Calls Tryd.prog 49 #[.int .i32 r] w fun e w' => e = .returned (.bool (ctlL r)) ∧ w = w' := by
  by_cases h1 : r < 32
  · have e : ctlL r = true := decide_eq_true (.inl h1)
    rw [e]
    go_enter Tryd.func49, Tryd.ntmps49
    go_wp2
    go_ret
    exact ⟨rfl, rfl⟩
  by_cases h2 : 127 ≤ r
  · by_cases h3 : r ≤ 159
    · have e : ctlL r = true := decide_eq_true (.inr ⟨h2, h3⟩)
      rw [e]
      go_enter Tryd.func49, Tryd.ntmps49
      go_wp2
      go_ret
      exact ⟨rfl, rfl⟩
    · have e : ctlL r = false := decide_eq_false (by omega)
      rw [e]
      go_enter Tryd.func49, Tryd.ntmps49
      go_wp2
      go_ret
      exact ⟨rfl, rfl⟩
  · have e : ctlL r = false := decide_eq_false (by omega)
    rw [e]
    go_enter Tryd.func49, Tryd.ntmps49
    go_wp2
    go_ret
    exact ⟨rfl, rfl⟩
end Go.Proofs.YtbkejjpkijjfaaaDoor
