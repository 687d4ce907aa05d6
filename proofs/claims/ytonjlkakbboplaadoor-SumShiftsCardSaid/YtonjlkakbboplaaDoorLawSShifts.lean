/-
  SumShifts (layer 9).
-/
import Derived.Test.YtonjlkakbboplaaDoorSumAlive
import Derived.Test.YtonjlkakbboplaaDoorROf
namespace Go.Proofs.YtonjlkakbboplaaDoor
open Go Go.RowKit
set_option maxRecDepth 100000

theorem shfI_in (s : BitVec 32) {n : Int} (h0 : 0 ≤ n) (h1 : n ≤ 1048576) : shfI s n = shfL s n.toNat := by
  unfold shfI
  rw [if_neg (by omega)]
theorem shfI_out (s : BitVec 32) {n : Int} (h : n < 0 ∨ 1048576 < n) : shfI s n = 0#32 := by
  unfold shfI
  rw [if_pos h]
set_option maxHeartbeats 4000000 in
theorem lsshifts_calls (s : BitVec 32) (n : Int) (w : World) (ht : Lays w) :
    Calls Tryd.prog 6 #[.int .u32 (s.toNat : Int), .int .i64 n] w fun e w' => e = .returned (.bool true) ∧ Below w.heap.size w w' := by
  have HR : Hid (¬ (300 < n ∧ n ≤ 1048576) → ∀ W : World, Calls Tryd.prog 16 #[.int .u32 (s.toNat : Int), .int .i64 n] W fun e w' => e = .returned (.int .u32 ((shfI s n).toNat : Int)) ∧ Below W.heap.size W w') := Lib.hid (fun hn W => by
    by_cases h0 : n < 0 ∨ 1048576 < n
    · rw [shfI_out s h0]
      exact (rshift_no s n h0 W).mono (fun e w' ⟨h1, h2⟩ => ⟨h1, h2 ▸ Below.refl _ _⟩)
    · obtain ⟨k, rfl⟩ : ∃ k : Nat, n = (k : Int) := ⟨n.toNat, by omega⟩
      rw [shfI_in s (by omega) (by omega)]
      exact rshift_calls s k (by omega) W)
  have HT := Lib.hid ht
  clear ht
  have HS : Hid (∀ W : World, Lays W → Calls Tryd.prog 15 #[.int .u32 (s.toNat : Int), .int .i64 n] W fun e w' => e = .returned (.int .u32 ((shfI s n).toNat : Int)) ∧ Below W.heap.size W w') := Lib.hid (sshift_calls s n)
  generalize (shfI s n).toNat = r at *
  go_enter Tryd.func6, Tryd.ntmps6
  by_cases hbig : 300 < n ∧ n ≤ 1048576
  · obtain ⟨h1, h2⟩ := hbig
    go_wp2_with fail
    refine (salive_calls w HT.out).mono ?_
    rintro _ w1 ⟨rfl, hb1⟩
    have HB1 := Lib.hid hb1
    clear hb1
    go_wp2_with fail
    go_ret
    exact ⟨rfl, HB1.out⟩
  · have HR2 := Lib.hid (HR.out hbig)
    clear HR
    by_cases h3 : n ≤ 300
    · have h4 : ¬ (300 < n) := by omega
      clear hbig h3
      go_wp2_with fail
      refine (salive_calls w HT.out).mono ?_
      rintro _ w1 ⟨rfl, hb1⟩
      have HB1 := Lib.hid hb1
      clear hb1
      go_wp2_with fail
      refine (HS.out w1 (HT.out.on HB1.out)).mono ?_
      rintro _ w2 ⟨rfl, hb2⟩
      have HB2 := Lib.hid (HB1.out.trans (hb2.mono HB1.out.size))
      clear hb2
      go_wp2_with fail
      refine (HR2.out w2).mono ?_
      rintro _ w3 ⟨rfl, hb3⟩
      have HB3 := Lib.hid (HB2.out.trans (hb3.mono HB2.out.size))
      clear hb3
      go_wp2_with fail
      go_ret
      exact ⟨rfl, HB3.out⟩
    · have h4 : 300 < n := by omega
      have h5 : ¬ (n ≤ 1048576) := by omega
      clear hbig h3
      go_wp2_with fail
      refine (salive_calls w HT.out).mono ?_
      rintro _ w1 ⟨rfl, hb1⟩
      have HB1 := Lib.hid hb1
      clear hb1
      go_wp2_with fail
      refine (HS.out w1 (HT.out.on HB1.out)).mono ?_
      rintro _ w2 ⟨rfl, hb2⟩
      have HB2 := Lib.hid (HB1.out.trans (hb2.mono HB1.out.size))
      clear hb2
      go_wp2_with fail
      refine (HR2.out w2).mono ?_
      rintro _ w3 ⟨rfl, hb3⟩
      have HB3 := Lib.hid (HB2.out.trans (hb3.mono HB2.out.size))
      clear hb3
      go_wp2_with fail
      go_ret
      exact ⟨rfl, HB3.out⟩
end Go.Proofs.YtonjlkakbboplaaDoor
