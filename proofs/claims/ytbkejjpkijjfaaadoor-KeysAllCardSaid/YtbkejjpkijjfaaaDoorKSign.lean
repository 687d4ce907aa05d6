/-
  keys.signKey: what the call comes to, in any memory.
-/
import Derived.Test.YtbkejjpkijjfaaaDoorKeyMath
import Derived.Test.YtbkejjpkijjfaaaDoorBs
import Derived.Test.YtbkejjpkijjfaaaDoorWidthC
import Derived.Test.YtbkejjpkijjfaaaDoorBx
import Derived.Test.YtbkejjpkijjfaaaDoorEnc
namespace Go.Proofs.YtbkejjpkijjfaaaDoor
open Go Go.RowKit
set_option maxRecDepth 100000

/-- A key as a value. -/
def kv (k : KV) : Value := .agg #[.int .i64 (k.1 : Int), .string (bs k.2)]
theorem sizeKey (w : World) : (sizeOf 44).run Tryd.prog w = .ok 2 w := Tryd.sizeOf44 w

set_option maxHeartbeats 2000000 in
theorem signKey_calls (r : Nat) (w : World) (hr : r ≤ 1114111) :
    Calls Tryd.prog 37 #[.int .i32 (r : Int)] w fun e w' => e = .returned (kv (signK r)) ∧ Below w.heap.size w w' := by
  have HC := Lib.hid (ctl_calls (r : Int) (w.alloc (.cells #[.int .i64 0, .string ⟨#[]⟩] 44)) (by omega) (by omega))
  have x0 := Bx.new w 44 (.int .i64 0) (.string ⟨#[]⟩)
  have hb0 : Below w.heap.size w (w.alloc (.cells #[.int .i64 0, .string ⟨#[]⟩] 44)) := (Below.refl _ w).alloc (Nat.le_refl _) _
  have X0 := Lib.hid x0
  have B0 := Lib.hid hb0
  clear x0 hb0
  cases hc : ctlL (r : Int) with
  | true =>
    have hk : signK r = (0, []) := by unfold signK; rw [if_pos hc]
    rw [hk]
    rw [hc] at HC
    clear hc hk
    go_enter Tryd.func37, Tryd.ntmps37
    go_wp2_with fail
    refine HC.out.mono ?_
    rintro e w' ⟨rfl, rfl⟩
    go_wp2
    refine bodyPost_ret (results_bx rfl _ _ w.heap.size (.int .i64 0) (.string ⟨#[]⟩) 44 rfl X0.out Tryd.underlying44 (sizeKey _)) rfl ?_
    exact ⟨rfl, B0.out⟩
  | false =>
    have hk : signK r = (1, Lib.encodeRune (r : Int)) := by unfold signK; rw [if_neg (by simp [hc])]
    rw [hk]
    rw [hc] at HC
    clear hc hk
    go_enter Tryd.func37, Tryd.ntmps37
    go_wp2_with fail
    refine HC.out.mono ?_
    rintro e w' ⟨rfl, rfl⟩
    go_wp2
    refine bodyPost_ret (results_bx rfl _ _ w.heap.size (.int .i64 1) (.string (Utf8.encode (r : Int))) 44 rfl (Bx.new w _ _ _) Tryd.underlying44 (sizeKey _)) rfl ?_
    exact ⟨by rw [encode_enc]; rfl, (Below.refl _ w).alloc (Nat.le_refl _) _⟩
end Go.Proofs.YtbkejjpkijjfaaaDoor
