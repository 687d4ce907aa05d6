/-
  The walk of TextCuts.
-/
import Derived.Test.YtifdgaklchihbaaDoorTAlive
import Derived.Test.YtifdgaklchihbaaDoorFew
import Derived.Test.YtifdgaklchihbaaDoorRCutT
namespace Go.Proofs.YtifdgaklchihbaaDoor
open Go Go.RowKit

theorem cutR_rt {m : List UInt8} {a : Nat} (h : Rt m a) (x y : Int) : Rt (cutR m a (backL m x) (backL m y)).1 (cutR m a (backL m x) (backL m y)).2.1 := by
  unfold cutR
  split
  · exact cut_rt h (isB_back _ _) (isB_back _ _) (by assumption)
  · exact h
set_option maxHeartbeats 1000000 in
theorem lcuts_big (s : ByteArray) (n x y : Int) (w : World) (hs : s.size ≤ 9223372036854775807) (hb : 1500 < s.size) (hsp : Spans w) :
    Calls Tryd.prog 5 #[.agg #[.string s, .int .i64 n], .int .i64 x, .int .i64 y] w fun e w' => e = .returned (.bool true) ∧ Below w.heap.size w w' := by
  have HF := few_one s (w.alloc (.cells #[.string s, .int .i64 n] 27)) hs
  rw [decide_eq_false (show ¬ s.size ≤ 1500 by omega), World.size_alloc] at HF
  have HFew := Lib.hid HF
  have b0 := Bx.new w 27 (.string s) (.int .i64 n)
  have c0 := b0.c0
  have c1 := b0.c1
  have k0 : Below w.heap.size w ((w.alloc (.cells #[.string s, .int .i64 n] 27)).alloc (.cells #[.string s] 9)) := ((Below.refl _ w).alloc (Nat.le_refl _) _).alloc (by simp) _
  have hcon := Lib.hid (talive_calls _ (spans_below hsp k0))
  clear HF hsp b0
  go_enter Tryd.func5, Tryd.ntmps5
  go_wp2_with fail
  refine HFew.out.mono ?_
  rintro e w1 ⟨rfl, rfl⟩
  go_wp2_with fail
  refine hcon.out.mono ?_
  rintro e w2 ⟨rfl, h⟩
  go_wp2
  go_ret
  exact ⟨rfl, k0.trans (h.mono k0.size)⟩

set_option maxHeartbeats 8000000 in
theorem lcuts_list (l : List UInt8) (n x y : Int) (w : World) (hb : l.length ≤ 1500) (hsp : Spans w) :
    Calls Tryd.prog 5 #[.agg #[.string (bs l), .int .i64 n], .int .i64 x, .int .i64 y] w fun e w' => e = .returned (.bool true) ∧ Below w.heap.size w w' := by
  have hsz := bs_size l
  have HF := few_one (bs l) (w.alloc (.cells #[.string (bs l), .int .i64 n] 27)) (by omega)
  rw [decide_eq_true (show (bs l).size ≤ 1500 by omega), World.size_alloc] at HF
  have HFew := Lib.hid HF
  have b0 := (Bx.new w 27 (.string (bs l)) (.int .i64 n))
  have c0 := b0.c0
  have c1 := b0.c1
  have b1 := b0.alloc (.cells #[.string (bs l)] 9)
  have k1 : Below w.heap.size w ((w.alloc (.cells #[.string (bs l), .int .i64 n] 27)).alloc (.cells #[.string (bs l)] 9)) := ((Below.refl _ w).alloc (Nat.le_refl _) _).alloc (by simp) _
  have d0 := b1.c0
  have d1 := b1.c1
  have HC := Lib.hid (fun W h => cutT_calls l n x y (by omega) W h)
  have HR := Lib.hid (fun W => rcutT_calls l n x y (by omega) W)
  have hrt := cutR_rt (make_rt l n) x y
  have hlen := hrt.2.1
  have HRt := Lib.hid (fun W h => right_calls (cutR (mS l) (mA l n) (backL (mS l) x) (backL (mS l) y)).1 ((cutR (mS l) (mA l n) (backL (mS l) x) (backL (mS l) y)).2.1 : Int) (by omega) W h)
  rw [rt_right hrt] at HRt
  have Hsp := Lib.hid hsp
  have B1 := Lib.hid b1
  have K1 := Lib.hid k1
  clear HF hsp b0 hrt hlen b1 k1
  generalize (cutR (mS l) (mA l n) (backL (mS l) x) (backL (mS l) y)).1 = z at *
  generalize (cutR (mS l) (mA l n) (backL (mS l) x) (backL (mS l) y)).2.1 = a at *
  generalize (cutR (mS l) (mA l n) (backL (mS l) x) (backL (mS l) y)).2.2 = u at *
  go_enter Tryd.func5, Tryd.ntmps5
  go_wp2_with fail
  refine HFew.out.mono ?_
  rintro e w0 ⟨rfl, rfl⟩
  go_wp2_with fail
  refine (HC.out _ (spans_below Hsp.out K1.out)).mono ?_
  rintro e w2 ⟨rfl, hb2⟩
  have k2 := K1.out.trans (hb2.mono K1.out.size)
  have b2 := (B1.out.below hb2).alloc (.cells #[.string (bs z), .int .i64 (a : Int)] 25)
  have y2 := Bx.new w2 25 (.string (bs z)) (.int .i64 (a : Int))
  have K2 := Lib.hid (k2.alloc k2.size (.cells #[.string (bs z), .int .i64 (a : Int)] 25))
  have B2 := Lib.hid b2
  have Y2 := Lib.hid y2
  have e0 := b2.c0
  have e1 := b2.c1
  clear hb2 k2 b2 y2 c0 c1 d0 d1
  go_wp2_with fail
  refine (HR.out _).mono ?_
  rintro e w3 ⟨rfl, hb3⟩
  have k3 := K2.out.trans (hb3.mono K2.out.size)
  have y3 := (Y2.out.below hb3).alloc (.cells #[.string (bs z), .int .i64 (a : Int)] 27)
  have x3 := Bx.new w3 27 (.string (bs z)) (.int .i64 (a : Int))
  have K3 := Lib.hid (k3.alloc k3.size (.cells #[.string (bs z), .int .i64 (a : Int)] 27))
  have Y3 := Lib.hid y3
  have X3 := Lib.hid x3
  clear hb3 k3 y3 x3 e0 e1
  go_wp2_with fail
  refine (talive_calls _ (spans_below Hsp.out K3.out)).mono ?_
  rintro e w4 ⟨rfl, hb4⟩
  have k4 := K3.out.trans (hb4.mono K3.out.size)
  have y4 := Y3.out.below hb4
  have x4 := X3.out.below hb4
  have g0 := y4.c0
  have g1 := y4.c1
  have h0 := x4.c0
  have h1 := x4.c1
  have K4 := Lib.hid k4
  clear hb4 k4 y4 x4
  go_wp2_with fail
  refine (HRt.out _ (spans_below Hsp.out K4.out)).mono ?_
  rintro e w5 ⟨rfl, hb5⟩
  have k5 := K4.out.trans (hb5.mono K4.out.size)
  go_wp2
  go_ret
  exact ⟨rfl, k5⟩
theorem lcuts_calls (s : ByteArray) (n x y : Int) (w : World) (hs : s.size ≤ 9223372036854775807) (hsp : Spans w) :
    Calls Tryd.prog 5 #[.agg #[.string s, .int .i64 n], .int .i64 x, .int .i64 y] w fun e w' => e = .returned (.bool true) ∧ Below w.heap.size w w' := by
  by_cases h : 1500 < s.size
  · exact lcuts_big s n x y w hs h hsp
  · exact lcuts_list s.data.toList n x y w (by rw [← Lib.size_eq]; omega) hsp
end Go.Proofs.YtifdgaklchihbaaDoor
