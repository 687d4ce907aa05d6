/-
  'alive' and 'few' of the statements of layer 3.
-/
import Derived.Test.YtifdgaklchihbaaDoorRights
import Derived.Test.YtifdgaklchihbaaDoorCutT
import Derived.Test.YtifdgaklchihbaaDoorSwaps
namespace Go.Proofs.YtifdgaklchihbaaDoor
open Go Go.RowKit

theorem al_ins (W : World) (hsp : Spans W) : Calls Tryd.prog 18 #[.agg #[.string ⟨#[97, 98]⟩, .int .i64 1], .string ⟨#[120]⟩] W fun e w' => e = .returned (.tuple #[.agg #[.string ⟨#[97, 120, 98]⟩, .int .i64 2], .int .i64 0]) ∧ Below W.heap.size W w' := by
  have h := insert_ok [97, 98] [120] 1 (by decide) (by decide) W hsp (by decide +kernel)
  rw [show insS (mS [97, 98]) (mA [97, 98] 1) (plainL [120]) = [97, 120, 98] by decide +kernel, show insA (mS [97, 98]) (mA [97, 98] 1) (plainL [120]) = 2 by decide +kernel] at h
  exact h
theorem al_cut3 (W : World) (hsp : Spans W) : Calls Tryd.prog 20 #[.agg #[.string ⟨#[97, 120, 98]⟩, .int .i64 2], .int .i64 0, .int .i64 2] W fun e w' => e = .returned (.tuple #[.agg #[.string ⟨#[98]⟩, .int .i64 0], .string ⟨#[97, 120]⟩]) ∧ Below W.heap.size W w' := by
  have h := cutT_calls [97, 120, 98] 2 0 2 (by decide) W hsp
  rw [show cutR (mS [97, 120, 98]) (mA [97, 120, 98] 2) (backL (mS [97, 120, 98]) 0) (backL (mS [97, 120, 98]) 2) = ([98], 0, [97, 120]) by decide +kernel] at h
  exact h
theorem al_swap (W : World) (hsp : Spans W) : Calls Tryd.prog 22 #[.agg #[.string ⟨#[97, 98]⟩, .int .i64 2]] W fun e w' => e = .returned (.tuple #[.agg #[.string ⟨#[98, 97]⟩, .int .i64 2], .bool true]) ∧ Below W.heap.size W w' := by
  have h := swap_calls [97, 98] 2 (by decide) W hsp
  rw [show swapR (mS [97, 98]) (mA [97, 98] 2) = ([98, 97], 2, true) by decide +kernel] at h
  exact h
theorem al_plain (W : World) : Calls Tryd.prog 15 #[.string ⟨#[97, 9, 98, 0]⟩] W fun e w' => e = .returned (.string ⟨#[97, 32, 98]⟩) ∧ Below W.heap.size W w' := by
  have h := plain_calls [97, 9, 98, 0] (by decide) W
  rw [show plainL [97, 9, 98, 0] = [97, 32, 98] by decide +kernel] at h
  exact h
theorem al_right (W : World) (hsp : Spans W) : Calls Tryd.prog 14 #[.agg #[.string ⟨#[97, 120, 98]⟩, .int .i64 2]] W fun e w' => e = .returned (.bool true) ∧ Below W.heap.size W w' := by
  have h := right_calls [97, 120, 98] 2 (by decide) W hsp
  rw [show rightB [97, 120, 98] 2 = true by decide +kernel] at h
  exact h
theorem al_make (W : World) (hsp : Spans W) : Calls Tryd.prog 12 #[.string ⟨#[101, 204, 129]⟩, .int .i64 1] W fun e w' => e = .returned (.agg #[.string ⟨#[101, 204, 129]⟩, .int .i64 0]) ∧ Below W.heap.size W w' := by
  have h := make_calls [101, 204, 129] 1 (by decide) W hsp
  rw [show mA [101, 204, 129] 1 = 0 by decide +kernel, show mS [101, 204, 129] = [101, 204, 129] by decide +kernel] at h
  exact h
theorem al_next (W : World) (hsp : Spans W) : Calls Tryd.prog 26 #[.string ⟨#[101, 204, 129, 120]⟩, .int .i64 0] W fun e w' => e = .returned (.int .i64 3) ∧ Below W.heap.size W w' := by
  have h := next_callsT [101, 204, 129, 120] 0 (by decide) W hsp
  rw [show nxtL (mS [101, 204, 129, 120]) (mA [101, 204, 129, 120] 0) = 3 by decide +kernel] at h
  exact h
theorem al_prev (W : World) (hsp : Spans W) : Calls Tryd.prog 25 #[.string ⟨#[97, 98]⟩, .int .i64 1] W fun e w' => e = .returned (.int .i64 0) ∧ Below W.heap.size W w' := by
  have h := prev_calls [97, 98] 1 (by decide) W hsp
  rw [show prvL (mS [97, 98]) (mA [97, 98] 1) = 0 by decide +kernel] at h
  exact h
theorem al_wl (W : World) (hsp : Spans W) : Calls Tryd.prog 27 #[.string ⟨#[97, 98, 32, 99, 100]⟩, .int .i64 5] W fun e w' => e = .returned (.int .i64 3) ∧ Below W.heap.size W w' := by
  have h := wordLeft_calls [97, 98, 32, 99, 100] 5 (by decide) W hsp
  rw [show wlL (mS [97, 98, 32, 99, 100]) (mA [97, 98, 32, 99, 100] 5) = 3 by decide +kernel] at h
  exact h
theorem al_wr (W : World) (hsp : Spans W) : Calls Tryd.prog 28 #[.string ⟨#[97, 98, 32, 99, 100]⟩, .int .i64 2] W fun e w' => e = .returned (.int .i64 5) ∧ Below W.heap.size W w' := by
  have h := wordRight_calls [97, 98, 32, 99, 100] 2 (by decide) W hsp
  rw [show wrL (mS [97, 98, 32, 99, 100]) (mA [97, 98, 32, 99, 100] 2) = 5 by decide +kernel] at h
  exact h
theorem al_first (W : World) (hsp : Spans W) : Calls Tryd.prog 29 #[.string ⟨#[32, 97, 98, 32, 99, 100]⟩] W fun e w' => e = .returned (.string ⟨#[32, 97, 98]⟩) ∧ Below W.heap.size W w' := by
  have h := first_calls [32, 97, 98, 32, 99, 100] (by decide) W hsp
  rw [show firL [32, 97, 98, 32, 99, 100] = [32, 97, 98] by decide +kernel] at h
  exact h

set_option maxHeartbeats 8000000 in
theorem talive_calls (w : World) (hsp : Spans w) :
    Calls Tryd.prog 11 #[] w fun e w' => e = .returned (.bool true) ∧ Below w.heap.size w w' := by
  have Hsp := Lib.hid hsp
  clear hsp
  go_enter Tryd.func11, Tryd.ntmps11
  go_wp2_with fail
  refine (al_ins _ Hsp.out).mono ?_
  rintro e w1 ⟨rfl, hb1⟩
  have x1 := Bx.new w1 25 (.string ⟨#[97, 120, 98]⟩) (.int .i64 2)
  have k1 : Below w.heap.size w (w1.alloc (.cells #[.string ⟨#[97, 120, 98]⟩, .int .i64 2] 25)) := hb1.alloc hb1.size _
  have c10 := x1.c0
  have c11 := x1.c1
  have X1 := Lib.hid x1
  have K1 := Lib.hid k1
  clear hb1 x1 k1
  go_wp2_with fail
  refine (al_cut3 _ (spans_below Hsp.out K1.out)).mono ?_
  rintro e w2 ⟨rfl, hb2⟩
  have k2 := K1.out.trans (hb2.mono K1.out.size)
  have x2 := X1.out.below hb2
  have K2 := Lib.hid (k2.alloc k2.size (.cells #[.string ⟨#[98]⟩, .int .i64 0] 25))
  have X2 := Lib.hid (x2.alloc (.cells #[.string ⟨#[98]⟩, .int .i64 0] 25))
  have Y2 := Lib.hid (Bx.new w2 25 (.string ⟨#[98]⟩) (.int .i64 0))
  clear hb2 k2 x2 c10 c11 X1 K1
  go_wp2_with fail
  refine (al_swap _ (spans_below Hsp.out K2.out)).mono ?_
  rintro e w3 ⟨rfl, hb3⟩
  have k3 := K2.out.trans (hb3.mono K2.out.size)
  have x3 := (X2.out.below hb3).alloc (.cells #[.string ⟨#[98, 97]⟩, .int .i64 2] 25)
  have y3 := (Y2.out.below hb3).alloc (.cells #[.string ⟨#[98, 97]⟩, .int .i64 2] 25)
  have z3 := Bx.new w3 25 (.string ⟨#[98, 97]⟩) (.int .i64 2)
  have K3 := Lib.hid (k3.alloc k3.size (.cells #[.string ⟨#[98, 97]⟩, .int .i64 2] 25))
  have xc0 := x3.c0
  have xc1 := x3.c1
  have yc0 := y3.c0
  have yc1 := y3.c1
  have zc0 := z3.c0
  have zc1 := z3.c1
  have X3 := Lib.hid x3
  clear hb3 k3 x3 y3 z3 X2 Y2 K2
  go_wp2_with fail
  refine (al_plain _).mono ?_
  rintro e w4 ⟨rfl, hb4⟩
  have k4 := K3.out.trans (hb4.mono K3.out.size)
  have x4 := X3.out.below hb4
  have d0 := x4.c0
  have d1 := x4.c1
  have K4 := Lib.hid k4
  clear hb4 k4 x4
  go_wp2_with fail
  refine (al_right _ (spans_below Hsp.out K4.out)).mono ?_
  rintro e w5 ⟨rfl, hb5⟩
  have K5 := Lib.hid (K4.out.trans (hb5.mono K4.out.size))
  clear hb5
  go_wp2_with fail
  refine (al_make _ (spans_below Hsp.out K5.out)).mono ?_
  rintro e w6 ⟨rfl, hb6⟩
  have K6 := Lib.hid (K5.out.trans (hb6.mono K5.out.size))
  clear hb6
  go_wp2_with fail
  refine (al_next _ (spans_below Hsp.out K6.out)).mono ?_
  rintro e w7 ⟨rfl, hb7⟩
  have K7 := Lib.hid (K6.out.trans (hb7.mono K6.out.size))
  clear hb7
  go_wp2_with fail
  refine (al_prev _ (spans_below Hsp.out K7.out)).mono ?_
  rintro e w8 ⟨rfl, hb8⟩
  have K8 := Lib.hid (K7.out.trans (hb8.mono K7.out.size))
  clear hb8
  go_wp2_with fail
  refine (al_wl _ (spans_below Hsp.out K8.out)).mono ?_
  rintro e w9 ⟨rfl, hb9⟩
  have K9 := Lib.hid (K8.out.trans (hb9.mono K8.out.size))
  clear hb9
  go_wp2_with fail
  refine (al_wr _ (spans_below Hsp.out K9.out)).mono ?_
  rintro e w10 ⟨rfl, hb10⟩
  have K10 := Lib.hid (K9.out.trans (hb10.mono K9.out.size))
  clear hb10
  go_wp2_with fail
  refine (al_first _ (spans_below Hsp.out K10.out)).mono ?_
  rintro e w11 ⟨rfl, hb11⟩
  have K11 := Lib.hid (K10.out.trans (hb11.mono K10.out.size))
  clear hb11
  go_wp2
  go_ret
  exact ⟨rfl, K11.out⟩
end Go.Proofs.YtifdgaklchihbaaDoor
