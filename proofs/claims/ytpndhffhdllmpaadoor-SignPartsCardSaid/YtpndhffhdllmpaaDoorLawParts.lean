/-
  The walk of SignParts.
-/
import Derived.Test.YtpndhffhdllmpaaDoorRefWhole
namespace Go.Proofs.YtpndhffhdllmpaaDoor
open Go Go.RowKit

theorem run_head (A : Option Addr) (c n k : Nat) (hk : k ≤ c) :
    ∀ W : World, (Instr.slice 22 (.slice A n c) none (some (.int .i64 (k : Int))) none).run Tryd.prog W = .ok (.slice A k c) W := by
  intro W
  have he : Tryd.prog.elem 22 = 5 := by kernel_rfl
  have hu : Tryd.prog.underlying 22 = some (.slice (Tryd.prog.elem 22)) := by rw [he]; exact Tryd.underlying22
  rw [run_slice_h W 22 A n c hu .i64 (k : Int) (by omega) (by omega), he, Tryd.sizeOf5]
  simp [sliced, Result.andThen]
  intro h
  cases A with
  | none => rfl
  | some a => simp [Addr.add]

set_option maxHeartbeats 4000000 in
set_option maxRecDepth 100000 in
theorem lparts_calls (A : Option Addr) (c : Nat) (l : List UInt8) (x : Int) (w : World) (hb : Byt w A l) (_hA : A = none → c = 0) (hlc : l.length ≤ c) (hm : c ≤ maxLen) (_hx0 : -9223372036854775808 ≤ x) (hx1 : x ≤ 9223372036854775807) (ht : Tabs w) :
    Calls Tryd.prog 7 #[.slice A l.length c, .int .i64 x] w fun e w' => e = .returned (.bool true) ∧ Below w.heap.size w w' := by
  by_cases hbig : 1000 < l.length
  · have hcon := Lib.hid (alive_calls w ht)
    clear hb ht hm _hA
    go_enter Tryd.func7, Tryd.ntmps7
    go_wp2_with fail
    refine hcon.out.mono ?_
    rintro e w' ⟨rfl, h⟩
    go_wp2
    go_ret
    exact ⟨rfl, h⟩
  by_cases hneg : x < 0
  · have hcon := Lib.hid (alive_calls w ht)
    clear hb ht hm _hA
    go_enter Tryd.func7, Tryd.ntmps7
    go_wp2_with fail
    refine hcon.out.mono ?_
    rintro e w' ⟨rfl, h⟩
    go_wp2
    go_ret
    exact ⟨rfl, h⟩
  obtain ⟨i1, hi1, hy0, hy1, hy2⟩ := info_parts info32
  have Hb := Lib.hid hb
  have Hm := Lib.hid hm
  have hrlen := runes_length l
  have Hrg := Lib.hid (runes_getD l)
  have hc63 : c ≤ 9223372036854775807 := by unfold maxLen at hm; omega
  clear hb hm _hA _hx0
  go_enter Tryd.func7, Tryd.ntmps7
  go_wp2_with fail
  go_loopw [5, 6] (fun v5 v6 wr => ∃ at_ j : Nat, v5 = .int .i64 (at_ : Int) ∧ v6 = .int .i64 (j : Int) ∧ Hid (Bound l at_) ∧ at_ ≤ l.length ∧ (j : Int) ≤ x ∧ Below w.heap.size w wr) (fun v5 _ _ => l.length - (intOf v5).toNat)
  case atStart => exact ⟨0, 0, rfl, rfl, Lib.hid Bound.zero, by omega, by omega, Below.refl _ _⟩
  case round =>
    obtain ⟨at_, j, rfl, rfl, hB, hat, hjx, hbel⟩ := hrel
    by_cases hgo : (j : Int) < x ∧ at_ < l.length
    · obtain ⟨g1, g2⟩ := hgo
      have hsl := run_cut A c l at_ (by omega)
      have hne : l.drop at_ ≠ [] := by
        intro h0
        have := congrArg List.length h0
        rw [List.length_drop] at this
        simp at this
        omega
      have hwd := Lib.decodeL_width (l.drop at_)
      have hnx : nextL (l.drop at_) = Lib.decodeL (l.drop at_) := by simp [nextL, hne]
      have hB2 := Bound.step hB.out g2
      have hle2 := hB2.le
      have hcon := rnext_calls (dropA A c at_) (c - at_) (l.drop at_) wr ((Hb.out.below hbel).drop c at_ hlc) (by unfold maxLen; rw [List.length_drop]; omega)
      unfold ToldNext at hcon
      rw [hnx, List.length_drop] at hcon
      have hd4 := decodeL_le4 (l.drop at_)
      have Hcon := Lib.hid hcon
      have HB2 := Lib.hid hB2
      clear hcon hnx hne hB2
      rw [List.length_drop] at hsl
      generalize (Lib.decodeL (l.drop at_)).1 = r1 at *
      generalize (Lib.decodeL (l.drop at_)).2 = n1 at *
      go_wp2_with fail
      refine Hcon.out.mono ?_
      rintro e w3 ⟨rfl, hb3⟩
      have hbel3 : Below w.heap.size w w3 := hbel.trans (hb3.mono hbel.size)
      clear hb3 Hcon hbel hsl
      go_wp2_with fail
      refine ⟨⟨at_ + n1, j + 1, by go_num, by go_num, HB2, hle2, by omega, hbel3⟩, ?_⟩
      simp [intOf]; omega
    · have Hcut := Lib.hid hB.out.cut
      have Hcl := Lib.hid hB.out.clean
      have hat0 : (0 : Int) ≤ (at_ : Int) := Int.natCast_nonneg _
      have hat1 : (at_ : Int) ≤ (l.length : Int) := by omega
      have hat2 : (at_ : Int) ≤ (c : Int) := by omega
      have hsl1 := run_head A c l.length at_ (by omega)
      have hsl2 := run_cut A c l at_ (by omega)
      rw [List.length_drop] at hsl2
      have htl : (l.take at_).length = at_ := by rw [List.length_take]; omega
      have hdl : (l.drop at_).length = l.length - at_ := List.length_drop
      have R1 : Hid (∀ W, Below w.heap.size w W → Calls Tryd.prog 15 #[.slice A at_ c] W fun e w' => ∃ v, e = .returned v ∧ w'.ownsRow W.heap.size 21 1 v (runes (l.take at_)).length (cells32 (runes (l.take at_))) ∧ Below W.heap.size W w') := by
        refine Lib.hid fun W h => ?_
        have := runes_calls A c (l.take at_) W ((Hb.out.below h).take at_) (by rw [htl]; omega)
        rwa [htl] at this
      have R2 : Hid (∀ W, Below w.heap.size w W → Calls Tryd.prog 15 #[.slice (dropA A c at_) (l.length - at_) (c - at_)] W fun e w' => ∃ v, e = .returned v ∧ w'.ownsRow W.heap.size 21 1 v (runes (l.drop at_)).length (cells32 (runes (l.drop at_))) ∧ Below W.heap.size W w') := by
        refine Lib.hid fun W h => ?_
        have := runes_calls (dropA A c at_) (c - at_) (l.drop at_) W ((Hb.out.below h).drop c at_ hlc) (by rw [hdl]; omega)
        rwa [hdl] at this
      have hr1 := runes_length (l.take at_)
      have hr2 := runes_length (l.drop at_)
      rw [htl] at hr1
      rw [hdl] at hr2
      have hc1 := clean_length (l.take at_)
      have hc2 := clean_length (l.drop at_)
      rw [htl] at hc1
      rw [hdl] at hc2
      have D2 := Lib.hid (fun W (h : Below w.heap.size w W) => rrunes_calls A c l W (Hb.out.below h) hlc Hm.out (by omega))
      have D4 : Hid (∀ W, Below w.heap.size w W → Calls Tryd.prog 16 #[.slice A at_ c] W fun e w' => e = .returned (.string ⟨(cleanL (l.take at_)).toArray⟩) ∧ Below W.heap.size W w') := by
        refine Lib.hid fun W h => ?_
        have := clean_calls A c (l.take at_) W ((Hb.out.below h).take at_) (by rw [htl]; omega)
        rwa [htl] at this
      have D5 : Hid (∀ W, Below w.heap.size w W → Calls Tryd.prog 16 #[.slice (dropA A c at_) (l.length - at_) (c - at_)] W fun e w' => e = .returned (.string ⟨(cleanL (l.drop at_)).toArray⟩) ∧ Below W.heap.size W w') := by
        refine Lib.hid fun W h => ?_
        have := clean_calls (dropA A c at_) (c - at_) (l.drop at_) W ((Hb.out.below h).drop c at_ hlc) (by rw [hdl]; omega)
        rwa [hdl] at this
      have D6 := Lib.hid (fun W (h : Below w.heap.size w W) => clean_calls A c l W (Hb.out.below h) (by omega))
      clear hB htl hdl hat
      generalize runes (l.take at_) = ra at *
      generalize runes (l.drop at_) = rd at *
      generalize runes l = rl at *
      generalize cleanL (l.take at_) = ca at *
      generalize cleanL (l.drop at_) = cd at *
      generalize cleanL l = cl at *
      have hcase : ((j : Int) < x ∧ ¬ at_ < l.length) ∨ ¬ (j : Int) < x := by
        by_cases hj : (j : Int) < x
        · exact .inl ⟨hj, fun h => hgo ⟨hj, h⟩⟩
        · exact .inr hj
      clear hgo
      have hwr := hbel.size
      have hca : (ca.length : Int) ≤ 8388608 := by omega
      have hcd : (cd.length : Int) ≤ 8388608 := by omega
      have hcat := fun W : World => run_string_add_lists (P := Tryd.prog) W ca cd hca hcd
      rw [Hcl.out] at hcat
      rcases hcase with ⟨hj, hge⟩ | hj
      all_goals
        go_wp2_with fail
        go_region_held3 (fun _ => True) (trivial) ((first
          | (go_at_call_of 15 (dropA A c at_); refine (R2.out _ ?_).mono ?_; exact k1; rintro e w2 ⟨v2, rfl, hO2, hb2⟩)
          | (go_at_call_of 15 A; refine (R1.out _ ?_).mono ?_; exact hbel.drew; rintro e w1 ⟨v1, rfl, hO1, hb1⟩; have k1 : Below w.heap.size w w1 := hbel.drew.trans (hb1.mono hbel.size))
          | (obtain ⟨v', w', hrun, hO, hg⟩ := run_append_32 (P := Tryd.prog) w2 _ _ 29 29 i1 Tryd.underlying29 hi1 hy0 hy1 hy2 v1 v2 ra rd (own_below hO1 hb2) hO2 (by omega) (by have := hb1.size; have := hb2.size; simp at *; omega); refine step_append_g (o := ⟨some 47, _, _, _, _, _⟩) (by rfl) (.tmp 42) (.tmp 46) 29 rfl _ _ rfl rfl hrun ?_)))
        have k2 : Below w.heap.size w w2 := k1.trans (hb2.mono k1.size)
        have k' : Below w.heap.size w w' := below_own k2 hg (own_below hO1 hb2) hwr k2.size
        rw [Hcut.out] at hO
        obtain ⟨A9, c9, rfl⟩ := own_form hO
        obtain ⟨hR9, _, _, _⟩ := rd32_of_own hO
        have HR9 : Hid (Rd32 w'.drew A9 rl) := Lib.hid (show Rd32 w'.drew A9 rl from hR9)
        have kd : Below w.heap.size w w'.drew := k'.drew
        clear hrun hg hO1 hb1 hO2 hb2 k1 k2 hO hR9 R1 R2 hbel
        go_wp2_with fail
        go_region_held3 (fun _ => True) (trivial) ((first
          | (go_at_call 10; refine (alive_calls _ ?_).mono ?_; exact (tabs_below ht kd); rintro e y1 ⟨rfl, hy1⟩; have k1 : Below w.heap.size w y1 := Below.trans kd (Below.mono hy1 kd.size))
          | (go_at_call 18; refine (D2.out _ ?_).mono ?_; exact k1; rintro e y2 ⟨v52, rfl, hO52, hy2⟩; have k2 : Below w.heap.size w y2 := Below.trans k1 (Below.mono hy2 k1.size); obtain ⟨A52, c52, rfl⟩ := own_form hO52; obtain ⟨hS52, _, _, _⟩ := rd64_of_own hO52)
          | (go_at_call 17; refine (same_calls A9 A52 c9 c52 rl _ ?_ ?_ ?_ ?_).mono ?_; exact ((HR9.out.below hy1).below hy2); exact hS52; (unfold maxLen; omega); exact Hrg.out; rintro e y3 ⟨rfl, hy3⟩; have k3 : Below w.heap.size w y3 := Below.trans k2 (Below.mono hy3 k2.size))
          | (go_at_call_of 16 (dropA A c at_); refine (D5.out _ ?_).mono ?_; exact k4; rintro e y5 ⟨rfl, hy5⟩; have k5 : Below w.heap.size w y5 := Below.trans k4 (Below.mono hy5 k4.size))
          | (go_at_call_of 16 at_; refine (D4.out _ ?_).mono ?_; exact k3; rintro e y4 ⟨rfl, hy4⟩; have k4 : Below w.heap.size w y4 := Below.trans k3 (Below.mono hy4 k3.size))
          | (go_at_call 16; refine (D6.out _ ?_).mono ?_; exact k5; rintro e y6 ⟨rfl, hy6⟩; have k6 : Below w.heap.size w y6 := Below.trans k5 (Below.mono hy6 k5.size))))
        have kend := Lib.hid k6
        clear hy1 hy2 hy3 hy4 hy5 hy6 k1 k2 k3 k4 k5 k6 k' kd HR9 D2 D4 D5 D6 hcat hsl1 hsl2 hO52 hS52
        go_wp2_with fail
        go_ret
        exact ⟨rfl, kend.out⟩
end Go.Proofs.YtpndhffhdllmpaaDoor
