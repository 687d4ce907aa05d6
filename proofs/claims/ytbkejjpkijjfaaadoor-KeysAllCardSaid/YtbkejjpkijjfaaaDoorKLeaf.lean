/-
  Small functions of package keys: what the calls come to, in any memory.
-/
import Derived.Test.YtbkejjpkijjfaaaDoorBs
import Derived.Test.YtbkejjpkijjfaaaDoorKeyMath
namespace Go.Proofs.YtbkejjpkijjfaaaDoor
open Go Go.RowKit
set_option maxRecDepth 100000

set_option maxHeartbeats 2000000 in
theorem letter_calls (x : Nat) (w : World) :
    Calls Tryd.prog 71 #[.int .u8 (x : Int)] w fun e w' => e = .returned (.int .i64 (arrowL x : Int)) ∧ w = w' := by
  by_cases h65 : x = 65
  · subst h65
    rw [show arrowL 65 = 19 by decide]
    go_enter Tryd.func71, Tryd.ntmps71
    go_wp2
    go_ret
    exact ⟨rfl, rfl⟩
  by_cases h66 : x = 66
  · subst h66
    rw [show arrowL 66 = 20 by decide]
    go_enter Tryd.func71, Tryd.ntmps71
    go_wp2
    go_ret
    exact ⟨rfl, rfl⟩
  by_cases h67 : x = 67
  · subst h67
    rw [show arrowL 67 = 6 by decide]
    go_enter Tryd.func71, Tryd.ntmps71
    go_wp2
    go_ret
    exact ⟨rfl, rfl⟩
  by_cases h68 : x = 68
  · subst h68
    rw [show arrowL 68 = 5 by decide]
    go_enter Tryd.func71, Tryd.ntmps71
    go_wp2
    go_ret
    exact ⟨rfl, rfl⟩
  by_cases h72 : x = 72
  · subst h72
    rw [show arrowL 72 = 7 by decide]
    go_enter Tryd.func71, Tryd.ntmps71
    go_wp2
    go_ret
    exact ⟨rfl, rfl⟩
  by_cases h70 : x = 70
  · subst h70
    rw [show arrowL 70 = 8 by decide]
    go_enter Tryd.func71, Tryd.ntmps71
    go_wp2
    go_ret
    exact ⟨rfl, rfl⟩
  have E : arrowL x = 0 := by simp [arrowL, h65, h66, h67, h68, h72, h70]
  rw [E]
  have e65 : ((x : Int) == 65) = false := beq_eq_false_iff_ne.2 (by omega)
  have e66 : ((x : Int) == 66) = false := beq_eq_false_iff_ne.2 (by omega)
  have e67 : ((x : Int) == 67) = false := beq_eq_false_iff_ne.2 (by omega)
  have e68 : ((x : Int) == 68) = false := beq_eq_false_iff_ne.2 (by omega)
  have e72 : ((x : Int) == 72) = false := beq_eq_false_iff_ne.2 (by omega)
  have e70 : ((x : Int) == 70) = false := beq_eq_false_iff_ne.2 (by omega)
  clear E
  go_enter Tryd.func71, Tryd.ntmps71
  go_wp2
  go_ret
  exact ⟨rfl, rfl⟩
set_option maxHeartbeats 2000000 in
theorem meta_calls (x : Nat) (w : World) :
    Calls Tryd.prog 58 #[.int .u8 (x : Int)] w fun e w' => e = .returned (.int .i64 (metaL x : Int)) ∧ w = w' := by
  by_cases h98 : x = 98
  · subst h98
    rw [show metaL 98 = 9 by decide]
    go_enter Tryd.func58, Tryd.ntmps58
    go_wp2
    go_ret
    exact ⟨rfl, rfl⟩
  by_cases h102 : x = 102
  · subst h102
    rw [show metaL 102 = 10 by decide]
    go_enter Tryd.func58, Tryd.ntmps58
    go_wp2
    go_ret
    exact ⟨rfl, rfl⟩
  by_cases h100 : x = 100
  · subst h100
    rw [show metaL 100 = 14 by decide]
    go_enter Tryd.func58, Tryd.ntmps58
    go_wp2
    go_ret
    exact ⟨rfl, rfl⟩
  by_cases h121 : x = 121
  · subst h121
    rw [show metaL 121 = 16 by decide]
    go_enter Tryd.func58, Tryd.ntmps58
    go_wp2
    go_ret
    exact ⟨rfl, rfl⟩
  by_cases h127 : x = 127
  · subst h127
    rw [show metaL 127 = 13 by decide]
    go_enter Tryd.func58, Tryd.ntmps58
    go_wp2
    go_ret
    exact ⟨rfl, rfl⟩
  have E : metaL x = 0 := by simp [metaL, h98, h102, h100, h121, h127]
  rw [E]
  have e98 : ((x : Int) == 98) = false := beq_eq_false_iff_ne.2 (by omega)
  have e102 : ((x : Int) == 102) = false := beq_eq_false_iff_ne.2 (by omega)
  have e100 : ((x : Int) == 100) = false := beq_eq_false_iff_ne.2 (by omega)
  have e121 : ((x : Int) == 121) = false := beq_eq_false_iff_ne.2 (by omega)
  have e127 : ((x : Int) == 127) = false := beq_eq_false_iff_ne.2 (by omega)
  clear E
  go_enter Tryd.func58, Tryd.ntmps58
  go_wp2
  go_ret
  exact ⟨rfl, rfl⟩
set_option maxHeartbeats 1000000 in
theorem between_calls4 (x : Nat) (w : World) :
    Calls Tryd.prog 68 #[.int .u8 (x : Int)] w fun e w' => e = .returned (.bool (decide (32 ≤ x ∧ x ≤ 63))) ∧ w = w' := by
  by_cases h1 : 32 ≤ x
  · by_cases h2 : x ≤ 63
    · rw [decide_eq_true (show 32 ≤ x ∧ x ≤ 63 from ⟨h1, h2⟩)]
      have d2 : decide ((x : Int) ≤ 63) = true := decide_eq_true (by omega)
      go_enter Tryd.func68, Tryd.ntmps68
      go_wp2
      go_ret
      exact ⟨rfl, rfl⟩
    · rw [decide_eq_false (show ¬ (32 ≤ x ∧ x ≤ 63) from fun h => h2 h.2)]
      have d2 : decide ((x : Int) ≤ 63) = false := decide_eq_false (by omega)
      go_enter Tryd.func68, Tryd.ntmps68
      go_wp2
      go_ret
      exact ⟨rfl, rfl⟩
  · rw [decide_eq_false (show ¬ (32 ≤ x ∧ x ≤ 63) from fun h => h1 h.1)]
    go_enter Tryd.func68, Tryd.ntmps68
    go_wp2
    go_ret
    exact ⟨rfl, rfl⟩
set_option maxHeartbeats 1000000 in
theorem last_calls (x : Nat) (w : World) :
    Calls Tryd.prog 69 #[.int .u8 (x : Int)] w fun e w' => e = .returned (.bool (decide (64 ≤ x ∧ x ≤ 126))) ∧ w = w' := by
  by_cases h1 : 64 ≤ x
  · by_cases h2 : x ≤ 126
    · rw [decide_eq_true (show 64 ≤ x ∧ x ≤ 126 from ⟨h1, h2⟩)]
      have d2 : decide ((x : Int) ≤ 126) = true := decide_eq_true (by omega)
      go_enter Tryd.func69, Tryd.ntmps69
      go_wp2
      go_ret
      exact ⟨rfl, rfl⟩
    · rw [decide_eq_false (show ¬ (64 ≤ x ∧ x ≤ 126) from fun h => h2 h.2)]
      have d2 : decide ((x : Int) ≤ 126) = false := decide_eq_false (by omega)
      go_enter Tryd.func69, Tryd.ntmps69
      go_wp2
      go_ret
      exact ⟨rfl, rfl⟩
  · rw [decide_eq_false (show ¬ (64 ≤ x ∧ x ≤ 126) from fun h => h1 h.1)]
    go_enter Tryd.func69, Tryd.ntmps69
    go_wp2
    go_ret
    exact ⟨rfl, rfl⟩
end Go.Proofs.YtbkejjpkijjfaaaDoor
