/-
  bytes.Equal of two slices of bytes that read as lists.
-/
import Derived.Test.YtjfikdldabmciaaDoorRowB
import Derived.Test.YtjfikdldabmciaaDoorNameOrd
namespace Go.Proofs.YtjfikdldabmciaaDoor
open Go Go.RowKit
set_option maxRecDepth 100000

theorem conv_strE {w : World} {A : Option Addr} {l : List UInt8} (h : Byt w A l) (c : Nat) : (convert 22 9 (.slice A l.length c)).run Tryd.prog w = .ok (.string (bs l)) w :=
  h.convert (P := Tryd.prog) c 22 5 9 Tryd.underlying22 Tryd.underlying5 Tryd.underlying9 l.length rfl
set_option maxHeartbeats 1000000 in
theorem beq_calls (A B : Option Addr) (c d : Nat) (l m : List UInt8) (w : World) (h1 : Byt w A l) (h2 : Byt w B m) :
    Calls Tryd.prog 12 #[.slice A l.length c, .slice B m.length d] w fun e w' => e = .returned (.bool (decide (l = m))) ∧ Below w.heap.size w w' := by
  have e1 := conv_strE h1 c
  have e2 := conv_strE h2 d
  have hq : Hid ((l == m) = decide (l = m)) := Lib.hid (by rw [Bool.eq_iff_iff]; simp)
  go_enter Tryd.func12, Tryd.ntmps12
  go_wp2_with fail
  go_ret
  exact ⟨by rw [← hq.out]; rfl, Below.refl _ _⟩
end Go.Proofs.YtjfikdldabmciaaDoor
