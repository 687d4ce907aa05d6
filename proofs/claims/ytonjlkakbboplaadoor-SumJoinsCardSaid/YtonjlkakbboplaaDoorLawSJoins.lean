/-
  SumJoins (layer 9).
-/
import Derived.Test.YtonjlkakbboplaaDoorSumAlive
import Derived.Test.YtonjlkakbboplaaDoorRowB
namespace Go.Proofs.YtonjlkakbboplaaDoor
open Go Go.RowKit
set_option maxRecDepth 100000

theorem joinI_is (x y : List UInt8) (h : y.length ≤ 1048576) : joinI (crcL x) (crcL y) (y.length : Int) = crcL (x ++ y) := by
  unfold joinI
  rw [if_neg (by omega), show ((y.length : Int)).toNat = y.length from rfl, crc_join]
theorem joinI_no (x : List UInt8) : joinI (crcL x) 0#32 0 = crcL x := by
  unfold joinI
  rw [if_neg (by omega), show ((0 : Int)).toNat = 0 from rfl, shfL_zero, BitVec.xor_zero]
set_option maxHeartbeats 4000000 in
theorem lsjoins_calls (A : Option Addr) (ca : Nat) (x : List UInt8) (B : Option Addr) (cb : Nat) (y : List UInt8) (w : World) (hx : Byt w A x) (hA : A = none → ca = 0) (hy : Byt w B y) (hB : B = none → cb = 0) (hm : x.length ≤ 9223372036854775807) (hm2 : y.length ≤ 9223372036854775807) (ht : Lays w) :
    Calls Tryd.prog 5 #[.slice A x.length ca, .slice B y.length cb] w fun e w' => e = .returned (.bool true) ∧ Below w.heap.size w w' := by
  obtain ⟨i1, hi1, hy0, hy1, hy2⟩ := info_parts info8
  have HX := Lib.hid hx
  have HT := Lib.hid ht
  clear ht
  have HY := Lib.hid hy
  have HA := Lib.hid hA
  have HB := Lib.hid hB
  clear hx hy hA hB
  go_enter Tryd.func5, Tryd.ntmps5
  by_cases h1 : 400 < x.length
  · have g1 : (400 : Int) < (x.length : Int) := by omega
    go_wp2_with fail
    refine (salive_calls w HT.out).mono ?_
    rintro _ w1 ⟨rfl, hb1⟩
    have HB1 := Lib.hid hb1
    clear hb1
    go_wp2_with fail
    go_ret
    exact ⟨rfl, HB1.out⟩
  by_cases h2 : 400 < y.length
  · have g1 : ¬ (400 : Int) < (x.length : Int) := by omega
    have g2 : (400 : Int) < (y.length : Int) := by omega
    go_wp2_with fail
    refine (salive_calls w HT.out).mono ?_
    rintro _ w1 ⟨rfl, hb1⟩
    have HB1 := Lib.hid hb1
    clear hb1
    go_wp2_with fail
    go_ret
    exact ⟨rfl, HB1.out⟩
  have g1 : ¬ (400 : Int) < (x.length : Int) := by omega
  have g2 : ¬ (400 : Int) < (y.length : Int) := by omega
  go_wp2_with fail
  refine (salive_calls w HT.out).mono ?_
  rintro _ w1 ⟨rfl, hb1⟩
  have HB1 := Lib.hid hb1
  clear hb1
  go_wp2_with fail
  refine (sof_calls A ca x w1 (HX.out.below HB1.out) (by omega) (HT.out.on HB1.out)).mono ?_
  rintro _ w2 ⟨rfl, hb2⟩
  have HB2 := Lib.hid (HB1.out.trans (hb2.mono HB1.out.size))
  clear hb2 HB1
  go_wp2_with fail
  refine (sof_calls B cb y w2 (HY.out.below HB2.out) (by omega) (HT.out.on HB2.out)).mono ?_
  rintro _ w3 ⟨rfl, hb3⟩
  have HB3 := Lib.hid (HB2.out.trans (hb3.mono HB2.out.size))
  clear hb3 HB2
  go_wp2_with fail
  refine (sjoin_calls (crcL x) (crcL y) (y.length : Int) w3 (HT.out.on HB3.out)).mono ?_
  rintro _ w4 ⟨rfl, hb4⟩
  have hB4 := HB3.out.trans (hb4.mono HB3.out.size)
  rw [joinI_is x y (by omega)]
  have k4 := hB4.alloc hB4.size (.cells #[] 5)
  obtain ⟨v5, w5, hrun5, hown5, hg5⟩ := run_append_byt (P := Tryd.prog) (w4.alloc (.cells #[] 5)) w4.heap.size 22 22 i1 Tryd.underlying22 hi1 hy0 hy1 hy2 (.slice (some ⟨w4.heap.size, 0, none⟩) 0 0) [] (own_empty w4 w4.heap.size (Nat.le_refl _)) A ca x HA.out (HX.out.below k4) (by simp; omega) (by simp)
  have k5 : Below w.heap.size w w5 := below_own k4 hg5 (own_empty w4 w4.heap.size (Nat.le_refl _)) hB4.size k4.size
  have k45 : Below w4.heap.size w4 w5 := below_own ((Below.refl _ _).alloc (Nat.le_refl _) _) hg5 (own_empty w4 w4.heap.size (Nat.le_refl _)) (Nat.le_refl _) (by simp)
  simp only [List.nil_append] at hown5
  obtain ⟨v6, w6, hrun6, hown6, hg6⟩ := run_append_byt (P := Tryd.prog) w5 w4.heap.size 22 22 i1 Tryd.underlying22 hi1 hy0 hy1 hy2 v5 x hown5 B cb y HB.out (HY.out.below k5) (by omega) k45.size
  have k6 : Below w.heap.size w w6 := below_own k5 hg6 hown5 hB4.size k5.size
  obtain ⟨A6, c6, rfl⟩ := own_form hown6
  have hb6 := (byt_of_own hown6).1
  have Hr5 := Lib.hid hrun5
  have Hr6 := Lib.hid hrun6
  have K6 := Lib.hid k6
  have H6 := Lib.hid hb6
  clear hrun5 hrun6 hown5 hown6 hg5 hg6 k4 k5 k45 k6 hb6 hB4 hb4 HB3
  go_wp2_with (first | (at_builtin; refine wpList_append_g (o := ⟨some 25, _, _, _, _, _⟩) (by kernel_rfl) (.tmp 23) (.tmp 24) 22 rfl _ _ rfl rfl Hr5.out ?_) | (at_builtin; refine wpList_append_g (o := ⟨some 27, _, _, _, _, _⟩) (by kernel_rfl) (.tmp 25) (.tmp 26) 22 rfl _ _ rfl rfl Hr6.out ?_))
  clear Hr5
  clear Hr6
  go_wp2_with fail
  have hof := sof_calls A6 c6 (x ++ y) w6 H6.out (by rw [List.length_append]; omega) (HT.out.on K6.out)
  rw [List.length_append] at hof
  refine hof.mono ?_
  rintro _ w7 ⟨rfl, hb7⟩
  have HB7 := Lib.hid (K6.out.trans (hb7.mono K6.out.size))
  clear hb7 K6 H6 hof
  go_wp2_with fail
  refine (sof_calls A ca x w7 (HX.out.below HB7.out) (by omega) (HT.out.on HB7.out)).mono ?_
  rintro _ w8 ⟨rfl, hb8⟩
  have HB8 := Lib.hid (HB7.out.trans (hb8.mono HB7.out.size))
  clear hb8 HB7
  go_wp2_with fail
  have hnil := sof_calls none 0 [] w8 (Byt.nil_ _ _) (by decide) (HT.out.on HB8.out)
  rw [crc_nil] at hnil
  refine hnil.mono ?_
  rintro _ w9 ⟨rfl, hb9⟩
  have HB9 := Lib.hid (HB8.out.trans (hb9.mono HB8.out.size))
  clear hb9 HB8 hnil
  go_wp2_with fail
  have hj := sjoin_calls (crcL x) 0#32 0 w9 (HT.out.on HB9.out)
  rw [joinI_no] at hj
  refine hj.mono ?_
  rintro _ w10 ⟨rfl, hb10⟩
  have HB10 := Lib.hid (HB9.out.trans (hb10.mono HB9.out.size))
  clear hb10 HB9 hj
  go_wp2_with fail
  refine (sof_calls A ca x w10 (HX.out.below HB10.out) (by omega) (HT.out.on HB10.out)).mono ?_
  rintro _ w11 ⟨rfl, hb11⟩
  have HB11 := Lib.hid (HB10.out.trans (hb11.mono HB10.out.size))
  clear hb11 HB10
  go_wp2_with fail
  go_ret
  exact ⟨rfl, HB11.out⟩
end Go.Proofs.YtonjlkakbboplaaDoor
