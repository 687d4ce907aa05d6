/-
  'same' of the statements; the document's own Clean.
-/
import Derived.Test.YtpndhffhdllmpaaDoorRowR
import Derived.Test.YtpndhffhdllmpaaDoorRowI
import Derived.Test.YtpndhffhdllmpaaDoorOwn
import Derived.Test.YtpndhffhdllmpaaDoorRefRunes
namespace Go.Proofs.YtpndhffhdllmpaaDoor
open Go Go.RowKit

set_option maxHeartbeats 2000000 in
theorem same_calls (A B : Option Addr) (c d : Nat) (rs : List Nat) (w : World) (h32 : Rd32 w A rs) (h64 : Rd64 w B rs) (hm : rs.length ≤ maxLen) (hr : ∀ i, rs.getD i 0 ≤ 1114111) :
    Calls Tryd.prog 17 #[.slice A rs.length c, .slice B rs.length d] w fun e w' => e = .returned (.bool true) ∧ Below w.heap.size w w' := by
  unfold maxLen at hm
  have H32 := Lib.hid h32
  have H64 := Lib.hid h64
  have Hr := Lib.hid hr
  clear h32 h64 hr
  have hne : ((rs.length : Int) != (rs.length : Int)) = false := by simp
  go_enter Tryd.func17, Tryd.ntmps17
  go_wp2_with fail
  go_loopw [13] (fun i wr => ∃ k n : Nat, k ≤ rs.length ∧ i = .int .i64 (k : Int) ∧ wr = w.drewN n) (fun i _ => rs.length - (intOf i).toNat)
  case atStart => exact ⟨0, 0, by omega, rfl, rfl⟩
  case round =>
    obtain ⟨k, n, hk, rfl, rfl⟩ := hrel
    by_cases hlt : k < rs.length
    · obtain ⟨g, o, rfl, _, hc⟩ := H32.out (by omega)
      obtain ⟨g2, o2, rfl, _, hc2⟩ := H64.out (by omega)
      have ck := hc k hlt
      have ck2 := hc2 k hlt
      have hrk := Hr.out k
      clear hc hc2
      generalize rs.getD k 0 = y at *
      have hyy : ((y : Int) != (y : Int)) = false := by simp
      go_wp2_with fail
      go_quiet (fail)
      go_wp2
      go_roundw
      case rel => exact ⟨k + 1, _, by omega, by go_num, rfl⟩
      case measure => simp [intOf]; omega
    · go_wp2
      go_ret
      exact ⟨rfl, bel_drewN (Below.refl _ _) _⟩
end Go.Proofs.YtpndhffhdllmpaaDoor
