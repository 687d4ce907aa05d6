/-
  The walk of WidthSigns.
-/
import Derived.Test.YtfoiihopalcioaaDoorWAlive
import Derived.Test.YtfoiihopalcioaaDoorRefW
namespace Go.Proofs.YtfoiihopalcioaaDoor
open Go Go.RowKit

set_option maxHeartbeats 2000000 in
theorem lsigns_calls (r : Int) (w : World) (h0 : -2147483648 ≤ r) (h1 : r ≤ 2147483647) (hsp : Spans w) :
    Calls Tryd.prog 3 #[.int .i32 r] w fun e w' => e = .returned (.bool true) ∧ Below w.heap.size w w' := by
  have H1 := Lib.hid (walive_calls w hsp)
  have H2 := Lib.hid (fun W (h : Spans W) => of_calls r W h)
  have H3 := Lib.hid (fun W => rof_calls r W)
  have H4 := Lib.hid (fun W => ctl_calls r W h0 h1)
  have H5 := Lib.hid (fun W => rctl_calls r W)
  generalize ofL r = c at *
  generalize ctlL r = t at *
  have hcc : ((c : Int) == (c : Int)) = true := by simp
  have htt : (t == t) = true := by simp
  go_enter Tryd.func3, Tryd.ntmps3
  go_wp2_with fail
  refine H1.out.mono ?_
  rintro e w1 ⟨rfl, hb1⟩
  go_wp2_with fail
  refine (H2.out _ (spans_below hsp hb1)).mono ?_
  rintro e w2 ⟨rfl, hb2⟩
  have k2 : Below w.heap.size w w2 := hb1.trans (hb2.mono hb1.size)
  clear hb1 hb2
  go_wp2_with fail
  refine (H3.out _).mono ?_
  rintro e w3 ⟨rfl, rfl⟩
  go_wp2_with fail
  refine (H4.out _).mono ?_
  rintro e w3 ⟨rfl, rfl⟩
  go_wp2_with fail
  refine (H5.out _).mono ?_
  rintro e w3 ⟨rfl, rfl⟩
  go_wp2
  go_ret
  exact ⟨by first | rfl | simp, k2⟩
end Go.Proofs.YtfoiihopalcioaaDoor
