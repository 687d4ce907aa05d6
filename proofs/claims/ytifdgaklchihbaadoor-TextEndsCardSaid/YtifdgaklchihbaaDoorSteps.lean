/-
  text.Prev and text.Next: what the calls come to.
-/
import Derived.Test.YtifdgaklchihbaaDoorMakes
namespace Go.Proofs.YtifdgaklchihbaaDoor
open Go Go.RowKit

set_option maxHeartbeats 2000000 in
theorem prev_calls (l : List UInt8) (n : Int) (hl : l.length ≤ 137438953472) (w : World) (hsp : Spans w) :
    Calls Tryd.prog 25 #[.string (bs l), .int .i64 n] w fun e w' => e = .returned (.int .i64 (prvL (mS l) (mA l n) : Int)) ∧ Below w.heap.size w w' := by
  have HM := Lib.hid (fun W h => make_calls l n hl W h)
  have ha := mA_le l n
  have hms := mS_len l
  have HB := Lib.hid (fun W h => back_calls (mS l) ((mA l n : Int) - 1) (by omega) W h)
  have HiA : Hid (backL (mS l) ((mA l n : Int) - 1) = prvL (mS l) (mA l n)) := Lib.hid rfl
  rw [HiA.out] at HB
  clear HiA
  generalize prvL (mS l) (mA l n) = x at *
  generalize mA l n = a at *
  generalize mS l = m at *
  have hw1 : IntKind.i64.wrap ((a : Int) - 1) = (a : Int) - 1 := IntWalk.i64_in _ (by omega)
  have Hsp := Lib.hid hsp
  clear hsp
  go_enter Tryd.func25, Tryd.ntmps25
  go_wp2_with fail
  refine (HM.out _ Hsp.out).mono ?_
  rintro e w1 ⟨rfl, hb1⟩
  have b1 := Bx.new w1 25 (.string (bs m)) (.int .i64 (a : Int))
  have c10 := b1.c0
  have c11 := b1.c1
  have k1 : Below w.heap.size w (w1.alloc (.cells #[.string (bs m), .int .i64 (a : Int)] 25)) := hb1.alloc hb1.size _
  have K1 := Lib.hid k1
  clear hb1 b1 k1
  go_wp2_with fail
  refine (HB.out _ (spans_below Hsp.out K1.out)).mono ?_
  rintro e w2 ⟨rfl, hb2⟩
  have k2 := K1.out.trans (hb2.mono K1.out.size)
  go_wp2
  go_ret
  exact ⟨rfl, k2⟩

set_option maxHeartbeats 2000000 in
theorem next_callsT (l : List UInt8) (n : Int) (hl : l.length ≤ 137438953472) (w : World) (hsp : Spans w) :
    Calls Tryd.prog 26 #[.string (bs l), .int .i64 n] w fun e w' => e = .returned (.int .i64 (nxtL (mS l) (mA l n) : Int)) ∧ Below w.heap.size w w' := by
  have HM := Lib.hid (fun W h => make_calls l n hl W h)
  have ha := mA_le l n
  have hms := mS_len l
  have HB := Lib.hid (fun W h => on_calls (mS l) ((mA l n : Int) + 1) (by omega) W h)
  have HiA : Hid (onL (mS l) ((mA l n : Int) + 1) = nxtL (mS l) (mA l n)) := Lib.hid rfl
  rw [HiA.out] at HB
  clear HiA
  generalize nxtL (mS l) (mA l n) = x at *
  generalize mA l n = a at *
  generalize mS l = m at *
  have hw1 : IntKind.i64.wrap ((a : Int) + 1) = (a : Int) + 1 := IntWalk.i64_in _ (by omega)
  have Hsp := Lib.hid hsp
  clear hsp
  go_enter Tryd.func26, Tryd.ntmps26
  go_wp2_with fail
  refine (HM.out _ Hsp.out).mono ?_
  rintro e w1 ⟨rfl, hb1⟩
  have b1 := Bx.new w1 25 (.string (bs m)) (.int .i64 (a : Int))
  have c10 := b1.c0
  have c11 := b1.c1
  have k1 : Below w.heap.size w (w1.alloc (.cells #[.string (bs m), .int .i64 (a : Int)] 25)) := hb1.alloc hb1.size _
  have K1 := Lib.hid k1
  clear hb1 b1 k1
  go_wp2_with fail
  refine (HB.out _ (spans_below Hsp.out K1.out)).mono ?_
  rintro e w2 ⟨rfl, hb2⟩
  have k2 := K1.out.trans (hb2.mono K1.out.size)
  go_wp2
  go_ret
  exact ⟨rfl, k2⟩
end Go.Proofs.YtifdgaklchihbaaDoor
