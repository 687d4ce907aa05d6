/-
  SumOf (layer 9).
-/
import Derived.Test.YtonjlkakbboplaaDoorSumAlive
import Derived.Test.YtonjlkakbboplaaDoorROf
namespace Go.Proofs.YtonjlkakbboplaaDoor
open Go Go.RowKit
set_option maxRecDepth 100000

set_option maxHeartbeats 4000000 in
theorem lsof_calls (A : Option Addr) (c : Nat) (l : List UInt8) (w : World) (hb : Byt w A l) (hm : l.length ≤ 9223372036854775807) (ht : Lays w) :
    Calls Tryd.prog 3 #[.slice A l.length c] w fun e w' => e = .returned (.bool true) ∧ Below w.heap.size w w' := by
  have HB := Lib.hid hb
  have HT := Lib.hid ht
  clear hb ht
  go_enter Tryd.func3, Tryd.ntmps3
  by_cases hbig : 600 < l.length
  · have hbi : (600 : Int) < (l.length : Int) := by omega
    go_wp2_with fail
    refine (salive_calls w HT.out).mono ?_
    rintro _ w1 ⟨rfl, hb1⟩
    have HB1 := Lib.hid hb1
    clear hb1
    go_wp2_with fail
    go_ret
    exact ⟨rfl, HB1.out⟩
  · have hbi : ¬ ((600 : Int) < (l.length : Int)) := by omega
    go_wp2_with fail
    refine (salive_calls w HT.out).mono ?_
    rintro _ w1 ⟨rfl, hb1⟩
    have HB1 := Lib.hid hb1
    clear hb1
    go_wp2_with fail
    refine (sof_calls A c l w1 (HB.out.below HB1.out) (by omega) (HT.out.on HB1.out)).mono ?_
    rintro _ w2 ⟨rfl, hb2⟩
    have HB2 := Lib.hid (HB1.out.trans (hb2.mono HB1.out.size))
    clear hb2
    go_wp2_with fail
    refine (rof_calls A c l w2 (HB.out.below HB2.out) (by omega)).mono ?_
    rintro _ w3 ⟨rfl, hb3⟩
    have HB3 := Lib.hid (HB2.out.trans (hb3.mono HB2.out.size))
    clear hb3
    go_wp2_with fail
    go_ret
    exact ⟨rfl, HB3.out⟩
end Go.Proofs.YtonjlkakbboplaaDoor
