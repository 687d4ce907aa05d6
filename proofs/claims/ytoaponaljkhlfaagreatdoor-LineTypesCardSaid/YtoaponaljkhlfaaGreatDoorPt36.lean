/-
  Layer 7 and what it stands on, part 36 (Swaps LnI LnJ).
-/
import Derived.Test.YtoaponaljkhlfaaGreatDoorPt33
import Derived.Deep.RegionHeld3
namespace Go.Proofs.YtoaponaljkhlfaaGreatDoor
section
open Go Go.RowKit
theorem mA_zero (l : List UInt8) : mA l 0 = 0 := by
  have := backL_bound (mS l) 0 (by omega)
  unfold mA
  omega
theorem wrL_le (m : List UInt8) (a : Nat) (h : a ≤ m.length) : wrL m a ≤ m.length := by
  have h1 := thrL_le (cutL (m.drop a))
  rw [cutL_flatten, List.length_drop] at h1
  unfold wrL
  omega
/-- The first word of a line. -/
def firL (l : List UInt8) : List UInt8 := (mS l).take (wrL (mS l) 0)
set_option maxHeartbeats 8000000 in
theorem swap_ez (l : List UInt8) (n : Int) (hl : l.length ≤ 137438953472) (w : World) (hsp : Spans w) (hend : mA l n = (mS l).length) (hz : swMid (mS l) (mA l n) = 0) :
    Calls Tryz.prog 109 #[.agg #[.string (bs l), .int .i64 n]] w fun e w' => e = .returned (.tuple #[.agg #[.string (bs (mS l)), .int .i64 (mA l n : Int)], .bool false]) ∧ Below w.heap.size w w' := by
  have HM := Lib.hid (fun W h => make_calls l n hl W h)
  have ha := mA_le l n
  have hms := mS_len l
  have hrt := make_rt l n
  have HP := Lib.hid (fun W h => prev_calls (mS l) (mA l n : Int) (by omega) W h)
  rw [hrt.make.1, hrt.make.2] at HP
  have hmd : swMid (mS l) (mA l n) = prvL (mS l) (mA l n) := if_pos hend
  rw [← hmd] at HP
  clear hrt
  generalize swMid (mS l) (mA l n) = d at *
  generalize mA l n = a at *
  generalize mS l = m at *
  have hszm := bs_size m
  have hde : ((a : Int) == (m.length : Int)) = true := by rw [beq_iff_eq]; omega
  have hdz : ((d : Int) == 0) = true := by rw [beq_iff_eq]; omega
  have k0 : Below w.heap.size w ((w.alloc (.cells #[.string (bs l), .int .i64 n] 43)).alloc (.cells #[.string ⟨#[]⟩, .int .i64 0] 43)) := ((Below.refl _ w).alloc (Nat.le_refl _) _).alloc (by simp) _
  have b0 := (Bx.new w 43 (.string (bs l)) (.int .i64 n)).alloc (.cells #[.string ⟨#[]⟩, .int .i64 0] 43)
  have r0 := Bx.new (w.alloc (.cells #[.string (bs l), .int .i64 n] 43)) 43 (.string ⟨#[]⟩) (.int .i64 0)
  rw [World.size_alloc] at r0
  have c00 := b0.c0
  have c01 := b0.c1
  have Hsp := Lib.hid hsp
  clear hsp
  clear hmd hend hz
  go_enter Tryz.func109, Tryz.ntmps109
  go_wp2_with fail
  refine (HM.out _ (spans_below Hsp.out k0)).mono ?_
  rintro e w1 ⟨rfl, hb1⟩
  have k1 := k0.trans (hb1.mono k0.size)
  have b1 := b0.below hb1
  have r1 := r0.below hb1
  clear hb1 c00 c01 b0 r0 k0
  have c10 := b1.c0
  have c11 := b1.c1
  have f10 := b1.f0
  have f11 := b1.f1
  have b3 := (b1.set0 (.string (bs m))).set1 (.int .i64 (a : Int))
  have r3 := (r1.other (i := 0) (Nat.succ_ne_self _) (.string (bs m))).other (i := 1) (Nat.succ_ne_self _) (.int .i64 (a : Int))
  have k3 := (k1.setCell (p := ⟨w.heap.size, 0, none⟩) (Nat.le_refl _) (.string (bs m))).setCell (p := ⟨w.heap.size, 1, none⟩) (Nat.le_refl _) (.int .i64 (a : Int))
  have B3 := Lib.hid b3
  have R3 := Lib.hid r3
  have K3 := Lib.hid k3
  clear b3 r3 k3 b1 r1 k1
  go_wp2_with fail
  refine (HP.out _ (spans_below Hsp.out K3.out)).mono ?_
  rintro e w5 ⟨rfl, hb5⟩
  have k5 := K3.out.trans (hb5.mono K3.out.size)
  have b5 := B3.out.below hb5
  have r5 := R3.out.below hb5
  clear hb5 c10 c11 f10 f11
  have c50 := b5.c0
  have c51 := b5.c1
  have R5 := Lib.hid r5
  have K5 := Lib.hid k5
  have B5 := Lib.hid b5
  have r50 := r5.c0
  have r51 := r5.c1
  have q50 := r5.f0
  have q51 := r5.f1
  have b50 := b5.c0
  have b51 := b5.c1
  clear r5 k5 b5
  go_wp2
  refine bodyPost_ret (results_bx2 rfl _ _ (w.heap.size + 1) (.string (bs m)) (.int .i64 (a : Int)) 43 rfl ((R5.out.set0 _).set1 _) Tryz.underlying43 (sizeBuf _)) rfl ?_
  exact ⟨rfl, (K5.out.setCell (p := ⟨w.heap.size + 1, 0, none⟩) (Nat.le_succ _) _).setCell (p := ⟨w.heap.size + 1, 1, none⟩) (Nat.le_succ _) _⟩
set_option maxHeartbeats 8000000 in
theorem swap_nz (l : List UInt8) (n : Int) (hl : l.length ≤ 137438953472) (w : World) (hsp : Spans w) (hend : ¬ mA l n = (mS l).length) (hz : swMid (mS l) (mA l n) = 0) :
    Calls Tryz.prog 109 #[.agg #[.string (bs l), .int .i64 n]] w fun e w' => e = .returned (.tuple #[.agg #[.string (bs (mS l)), .int .i64 (mA l n : Int)], .bool false]) ∧ Below w.heap.size w w' := by
  have HM := Lib.hid (fun W h => make_calls l n hl W h)
  have ha := mA_le l n
  have hms := mS_len l
  have hrt := make_rt l n
  have hmd : swMid (mS l) (mA l n) = mA l n := if_neg hend
  clear hrt
  generalize swMid (mS l) (mA l n) = d at *
  generalize mA l n = a at *
  generalize mS l = m at *
  have hszm := bs_size m
  have hde : ((a : Int) == (m.length : Int)) = false := beq_eq_false_iff_ne.2 (by omega)
  have hdz : ((d : Int) == 0) = true := by rw [beq_iff_eq]; omega
  have k0 : Below w.heap.size w ((w.alloc (.cells #[.string (bs l), .int .i64 n] 43)).alloc (.cells #[.string ⟨#[]⟩, .int .i64 0] 43)) := ((Below.refl _ w).alloc (Nat.le_refl _) _).alloc (by simp) _
  have b0 := (Bx.new w 43 (.string (bs l)) (.int .i64 n)).alloc (.cells #[.string ⟨#[]⟩, .int .i64 0] 43)
  have r0 := Bx.new (w.alloc (.cells #[.string (bs l), .int .i64 n] 43)) 43 (.string ⟨#[]⟩) (.int .i64 0)
  rw [World.size_alloc] at r0
  have c00 := b0.c0
  have c01 := b0.c1
  have Hsp := Lib.hid hsp
  clear hsp
  clear hend hz
  obtain rfl := hmd
  go_enter Tryz.func109, Tryz.ntmps109
  go_wp2_with fail
  refine (HM.out _ (spans_below Hsp.out k0)).mono ?_
  rintro e w1 ⟨rfl, hb1⟩
  have k1 := k0.trans (hb1.mono k0.size)
  have b1 := b0.below hb1
  have r1 := r0.below hb1
  clear hb1 c00 c01 b0 r0 k0
  have c10 := b1.c0
  have c11 := b1.c1
  have f10 := b1.f0
  have f11 := b1.f1
  have b3 := (b1.set0 (.string (bs m))).set1 (.int .i64 (d : Int))
  have r3 := (r1.other (i := 0) (Nat.succ_ne_self _) (.string (bs m))).other (i := 1) (Nat.succ_ne_self _) (.int .i64 (d : Int))
  have k3 := (k1.setCell (p := ⟨w.heap.size, 0, none⟩) (Nat.le_refl _) (.string (bs m))).setCell (p := ⟨w.heap.size, 1, none⟩) (Nat.le_refl _) (.int .i64 (d : Int))
  have b5 := b3
  have r5 := r3
  have k5 := k3
  clear b3 r3 k3 b1 r1 k1
  have R5 := Lib.hid r5
  have K5 := Lib.hid k5
  have B5 := Lib.hid b5
  have r50 := r5.c0
  have r51 := r5.c1
  have q50 := r5.f0
  have q51 := r5.f1
  have b50 := b5.c0
  have b51 := b5.c1
  clear r5 k5 b5
  go_wp2
  refine bodyPost_ret (results_bx2 rfl _ _ (w.heap.size + 1) (.string (bs m)) (.int .i64 (d : Int)) 43 rfl ((R5.out.set0 _).set1 _) Tryz.underlying43 (sizeBuf _)) rfl ?_
  exact ⟨rfl, (K5.out.setCell (p := ⟨w.heap.size + 1, 0, none⟩) (Nat.le_succ _) _).setCell (p := ⟨w.heap.size + 1, 1, none⟩) (Nat.le_succ _) _⟩
set_option maxHeartbeats 8000000 in
theorem swap_e (l : List UInt8) (n : Int) (hl : l.length ≤ 137438953472) (w : World) (hsp : Spans w) (hend : mA l n = (mS l).length) (hz : ¬ swMid (mS l) (mA l n) = 0) :
    Calls Tryz.prog 109 #[.agg #[.string (bs l), .int .i64 n]] w fun e w' => e = .returned (.tuple #[.agg #[.string (bs (swS (mS l) (prvL (mS l) (swMid (mS l) (mA l n))) (swMid (mS l) (mA l n)) (nxtL (mS l) (swMid (mS l) (mA l n))))), .int .i64 (onL (swS (mS l) (prvL (mS l) (swMid (mS l) (mA l n))) (swMid (mS l) (mA l n)) (nxtL (mS l) (swMid (mS l) (mA l n)))) (nxtL (mS l) (swMid (mS l) (mA l n)) : Int) : Int)], .bool true]) ∧ Below w.heap.size w w' := by
  have HM := Lib.hid (fun W h => make_calls l n hl W h)
  have ha := mA_le l n
  have hms := mS_len l
  have hrt := make_rt l n
  have HP := Lib.hid (fun W h => prev_calls (mS l) (mA l n : Int) (by omega) W h)
  rw [hrt.make.1, hrt.make.2] at HP
  have hmd : swMid (mS l) (mA l n) = prvL (mS l) (mA l n) := if_pos hend
  rw [← hmd] at HP
  have hbm := isB_mid hrt.2.2
  have hmr : Rt (mS l) (swMid (mS l) (mA l n)) := ⟨hrt.1, hrt.2.1, hbm⟩
  have hfl := prv_lt hbm
  have htg := nxt_ge hbm
  have htl : nxtL (mS l) (swMid (mS l) (mA l n)) ≤ (mS l).length := onL_le _ _
  have hml := hbm.le
  have HF := Lib.hid (fun W h => prev_calls (mS l) (swMid (mS l) (mA l n) : Int) (by omega) W h)
  rw [hmr.make.1, hmr.make.2] at HF
  have HT := Lib.hid (fun W h => next_callsT (mS l) (swMid (mS l) (mA l n) : Int) (by omega) W h)
  rw [hmr.make.1, hmr.make.2] at HT
  have hsl := swS_length (mS l) _ _ _ hfl htg htl
  have HO := Lib.hid (fun W h => on_calls (swS (mS l) (prvL (mS l) (swMid (mS l) (mA l n))) (swMid (mS l) (mA l n)) (nxtL (mS l) (swMid (mS l) (mA l n)))) (nxtL (mS l) (swMid (mS l) (mA l n)) : Int) (by omega) W h)
  have hx1 := bs_take (mS l) (prvL (mS l) (swMid (mS l) (mA l n)))
  have hx2 : (bs (mS l)).extract (swMid (mS l) (mA l n)) (nxtL (mS l) (swMid (mS l) (mA l n))) = bs (goneS (mS l) (swMid (mS l) (mA l n)) (nxtL (mS l) (swMid (mS l) (mA l n)))) := bs_mid _ _ _
  have hx3 : (bs (mS l)).extract (prvL (mS l) (swMid (mS l) (mA l n))) (swMid (mS l) (mA l n)) = bs (goneS (mS l) (prvL (mS l) (swMid (mS l) (mA l n))) (swMid (mS l) (mA l n))) := bs_mid _ _ _
  have hx4 := bs_drop (mS l) (nxtL (mS l) (swMid (mS l) (mA l n)))
  have hp3 : ∀ W : World, (Op.stringOp .add (bs ((mS l).take (prvL (mS l) (swMid (mS l) (mA l n))) ++ goneS (mS l) (swMid (mS l) (mA l n)) (nxtL (mS l) (swMid (mS l) (mA l n))) ++ goneS (mS l) (prvL (mS l) (swMid (mS l) (mA l n))) (swMid (mS l) (mA l n)))) (bs ((mS l).drop (nxtL (mS l) (swMid (mS l) (mA l n)))))).run Tryz.prog W = .ok (.string (bs (swS (mS l) (prvL (mS l) (swMid (mS l) (mA l n))) (swMid (mS l) (mA l n)) (nxtL (mS l) (swMid (mS l) (mA l n)))))) W :=
    add_bs Tryz.prog _ _ (by have e := hsl; unfold swS at e; rw [List.length_append] at e; omega)
  have hp2 := add_bs Tryz.prog ((mS l).take (prvL (mS l) (swMid (mS l) (mA l n))) ++ goneS (mS l) (swMid (mS l) (mA l n)) (nxtL (mS l) (swMid (mS l) (mA l n)))) (goneS (mS l) (prvL (mS l) (swMid (mS l) (mA l n))) (swMid (mS l) (mA l n))) (by have e := hsl; unfold swS at e; simp only [List.length_append] at e; rw [List.length_append]; omega)
  have hp1 := add_bs Tryz.prog ((mS l).take (prvL (mS l) (swMid (mS l) (mA l n)))) (goneS (mS l) (swMid (mS l) (mA l n)) (nxtL (mS l) (swMid (mS l) (mA l n)))) (by have e := hsl; unfold swS at e; simp only [List.length_append] at e; omega)
  clear hbm hmr
  generalize onL (swS (mS l) (prvL (mS l) (swMid (mS l) (mA l n))) (swMid (mS l) (mA l n)) (nxtL (mS l) (swMid (mS l) (mA l n)))) (nxtL (mS l) (swMid (mS l) (mA l n)) : Int) = x at *
  generalize swS (mS l) (prvL (mS l) (swMid (mS l) (mA l n))) (swMid (mS l) (mA l n)) (nxtL (mS l) (swMid (mS l) (mA l n))) = z at *
  generalize hA3 : (mS l).take (prvL (mS l) (swMid (mS l) (mA l n))) ++ goneS (mS l) (swMid (mS l) (mA l n)) (nxtL (mS l) (swMid (mS l) (mA l n))) ++ goneS (mS l) (prvL (mS l) (swMid (mS l) (mA l n))) (swMid (mS l) (mA l n)) = s3 at *
  generalize hA2 : (mS l).take (prvL (mS l) (swMid (mS l) (mA l n))) ++ goneS (mS l) (swMid (mS l) (mA l n)) (nxtL (mS l) (swMid (mS l) (mA l n))) = s2 at *
  clear hA3 hA2
  generalize (mS l).take (prvL (mS l) (swMid (mS l) (mA l n))) = t1 at *
  generalize goneS (mS l) (swMid (mS l) (mA l n)) (nxtL (mS l) (swMid (mS l) (mA l n))) = t2 at *
  generalize goneS (mS l) (prvL (mS l) (swMid (mS l) (mA l n))) (swMid (mS l) (mA l n)) = t3 at *
  generalize (mS l).drop (nxtL (mS l) (swMid (mS l) (mA l n))) = t4 at *
  generalize prvL (mS l) (swMid (mS l) (mA l n)) = f at *
  generalize nxtL (mS l) (swMid (mS l) (mA l n)) = t at *
  clear hrt
  generalize swMid (mS l) (mA l n) = d at *
  generalize mA l n = a at *
  generalize mS l = m at *
  have hszm := bs_size m
  have hszz := bs_size z
  have hi0 : (0 : Int) ≤ (f : Int) := by omega
  have hi1 : (f : Int) ≤ (d : Int) := by omega
  have hi2 : (0 : Int) ≤ (d : Int) := by omega
  have hi3 : (d : Int) ≤ (t : Int) := by omega
  have hi4 : (0 : Int) ≤ (t : Int) := by omega
  have hi5 : (t : Int) ≤ (m.length : Int) := by omega
  have hi6 : (d : Int) ≤ (m.length : Int) := by omega
  have hi7 : (f : Int) ≤ (m.length : Int) := by omega
  have hde : ((a : Int) == (m.length : Int)) = true := by rw [beq_iff_eq]; omega
  have hdz : ((d : Int) == 0) = false := beq_eq_false_iff_ne.2 (by omega)
  have k0 : Below w.heap.size w ((w.alloc (.cells #[.string (bs l), .int .i64 n] 43)).alloc (.cells #[.string ⟨#[]⟩, .int .i64 0] 43)) := ((Below.refl _ w).alloc (Nat.le_refl _) _).alloc (by simp) _
  have b0 := (Bx.new w 43 (.string (bs l)) (.int .i64 n)).alloc (.cells #[.string ⟨#[]⟩, .int .i64 0] 43)
  have r0 := Bx.new (w.alloc (.cells #[.string (bs l), .int .i64 n] 43)) 43 (.string ⟨#[]⟩) (.int .i64 0)
  rw [World.size_alloc] at r0
  have c00 := b0.c0
  have c01 := b0.c1
  have Hsp := Lib.hid hsp
  clear hsp
  clear hmd hend hz
  go_enter Tryz.func109, Tryz.ntmps109
  go_wp2_with fail
  refine (HM.out _ (spans_below Hsp.out k0)).mono ?_
  rintro e w1 ⟨rfl, hb1⟩
  have k1 := k0.trans (hb1.mono k0.size)
  have b1 := b0.below hb1
  have r1 := r0.below hb1
  clear hb1 c00 c01 b0 r0 k0
  have c10 := b1.c0
  have c11 := b1.c1
  have f10 := b1.f0
  have f11 := b1.f1
  have b3 := (b1.set0 (.string (bs m))).set1 (.int .i64 (a : Int))
  have r3 := (r1.other (i := 0) (Nat.succ_ne_self _) (.string (bs m))).other (i := 1) (Nat.succ_ne_self _) (.int .i64 (a : Int))
  have k3 := (k1.setCell (p := ⟨w.heap.size, 0, none⟩) (Nat.le_refl _) (.string (bs m))).setCell (p := ⟨w.heap.size, 1, none⟩) (Nat.le_refl _) (.int .i64 (a : Int))
  have B3 := Lib.hid b3
  have R3 := Lib.hid r3
  have K3 := Lib.hid k3
  clear b3 r3 k3 b1 r1 k1
  go_wp2_with fail
  refine (HP.out _ (spans_below Hsp.out K3.out)).mono ?_
  rintro e w5 ⟨rfl, hb5⟩
  have k5 := K3.out.trans (hb5.mono K3.out.size)
  have b5 := B3.out.below hb5
  have r5 := R3.out.below hb5
  clear hb5 c10 c11 f10 f11
  have c50 := b5.c0
  have c51 := b5.c1
  have b50 := b5.c0
  have b51 := b5.c1
  go_wp2_with fail
  have K6 := Lib.hid k5.drew
  have B6 := Lib.hid b5.drew
  have R6 := Lib.hid r5.drew
  clear k5 b5 r5 b50 b51
  refine wp_region_held_drew (S := (fun w' => w'.cell? ⟨w.heap.size, 0, none⟩ = some (.string (bs m)) ∧ w'.cell? ⟨w.heap.size, 1, none⟩ = some (.int .i64 (a : Int)))) (by kernel_rfl) ⟨B6.out.c0, B6.out.c1⟩ (fun hHeld => ?_)
  refine wpAnyH_take (i := 0) (oi := ⟨some 27, _, _, _, _, _⟩) (v := ?_) rfl (by kernel_rfl) (by kernel_rfl) (by kernel_rfl) (fun _ _ _ h => h) (Or.inl ⟨by kernel_rfl, ?hy0⟩) (by assumption) ?_
  case hy0 => (intro w' hSw; (try dsimp only at hSw); go_simp; try with_reducible rfl)
  simp only [Act.put, List.setIfInBounds_toArray, List.set_cons_zero, List.set_cons_succ]
  refine wpAnyH_take (i := 1) (oi := ⟨some 28, _, _, _, _, _⟩) (v := ?_) rfl (by kernel_rfl) (by kernel_rfl) (by kernel_rfl) (fun _ _ _ h => h) (Or.inl ⟨by kernel_rfl, ?hy1⟩) (by assumption) ?_
  case hy1 => (intro w' hSw; (try dsimp only at hSw); go_simp; try with_reducible rfl)
  simp only [Act.put, List.setIfInBounds_toArray, List.set_cons_zero, List.set_cons_succ]
  refine wpAnyH_take (i := 2) (oi := ⟨some 29, _, _, _, _, _⟩) (v := ?_) rfl (by kernel_rfl) (by kernel_rfl) (by kernel_rfl) (fun _ _ _ h => h) (Or.inl ⟨by kernel_rfl, ?hy2⟩) (by assumption) ?_
  case hy2 => (intro w' hSw; (try dsimp only at hSw); go_simp; try with_reducible rfl)
  simp only [Act.put, List.setIfInBounds_toArray, List.set_cons_zero, List.set_cons_succ]
  refine wpAnyH_take (i := 4) (oi := ⟨some 31, _, _, _, _, _⟩) (v := ?_) rfl (by kernel_rfl) (by kernel_rfl) (by kernel_rfl) (fun _ _ _ h => h) (Or.inl ⟨by kernel_rfl, ?hy4⟩) (by assumption) ?_
  case hy4 => (intro w' hSw; (try dsimp only at hSw); go_simp; try with_reducible rfl)
  simp only [Act.put, List.setIfInBounds_toArray, List.set_cons_zero, List.set_cons_succ]
  refine wpAnyH_take (i := 5) (oi := ⟨some 32, _, _, _, _, _⟩) (v := ?_) rfl (by kernel_rfl) (by kernel_rfl) (by kernel_rfl) (fun _ _ _ h => h) (Or.inl ⟨by kernel_rfl, ?hy5⟩) (by assumption) ?_
  case hy5 => (intro w' hSw; (try dsimp only at hSw); go_simp; try with_reducible rfl)
  simp only [Act.put, List.setIfInBounds_toArray, List.set_cons_zero, List.set_cons_succ]
  refine wpAnyH_take (i := 6) (oi := ⟨some 33, _, _, _, _, _⟩) (v := ?_) rfl (by kernel_rfl) (by kernel_rfl) (by kernel_rfl) (fun _ _ _ h => h) (Or.inl ⟨by kernel_rfl, ?hy6⟩) (by assumption) ?_
  case hy6 => (intro w' hSw; (try dsimp only at hSw); go_simp; try with_reducible rfl)
  simp only [Act.put, List.setIfInBounds_toArray, List.set_cons_zero, List.set_cons_succ]
  refine wpAnyH_ready (rs := [3]) (by kernel_rfl) (by simp) ?_
  refine AllReadyH.cons (o := ⟨some 30, _, _, _, _, _⟩) rfl (fun K hK => ?_) AllReadyH.nil
  (rw [if_pos (by kernel_rfl)])
  go_simp
  (refine (HF.out _ (spans_below Hsp.out K6.out)).mono ?_; rintro e w7 ⟨rfl, hb7⟩; have k7 := K6.out.trans (hb7.mono K6.out.size); have b7 := B6.out.below hb7; have r7 := R6.out.below hb7)
  refine hK.out _ _ ⟨b7.c0, b7.c1⟩ (fun hHeld => ?_)
  clear hK K
  refine wpAnyH_ready (rs := [7]) (by kernel_rfl) (by simp) ?_
  refine AllReadyH.cons (o := ⟨some 34, _, _, _, _, _⟩) rfl (fun K hK => ?_) AllReadyH.nil
  (rw [if_pos (by kernel_rfl)])
  go_simp
  (refine (HT.out _ (spans_below Hsp.out k7)).mono ?_; rintro e w8 ⟨rfl, hb8⟩; have k8 := k7.trans (hb8.mono k7.size); have b8 := b7.below hb8; have r8 := r7.below hb8)
  refine hK.out _ _ ⟨b8.c0, b8.c1⟩ (fun hHeld => ?_)
  clear hK K
  refine wpAnyH_take (i := 8) (oi := ⟨some 5, _, _, _, _, _⟩) (v := ?_) rfl (by kernel_rfl) (by kernel_rfl) (by kernel_rfl) (fun _ _ _ h => h) (Or.inl ⟨by kernel_rfl, ?hy8⟩) (by assumption) ?_
  case hy8 => (intro w' hSw; (try dsimp only at hSw); go_simp; try with_reducible rfl)
  simp only [Act.put, List.setIfInBounds_toArray, List.set_cons_zero, List.set_cons_succ]
  refine wpAnyH_take (i := 9) (oi := ⟨some 6, _, _, _, _, _⟩) (v := ?_) rfl (by kernel_rfl) (by kernel_rfl) (by kernel_rfl) (fun _ _ _ h => h) (Or.inl ⟨by kernel_rfl, ?hy9⟩) (by assumption) ?_
  case hy9 => (intro w' hSw; (try dsimp only at hSw); go_simp; try with_reducible rfl)
  simp only [Act.put, List.setIfInBounds_toArray, List.set_cons_zero, List.set_cons_succ]
  refine wpAnyH_done (by kernel_rfl) ?_ _
  have K8 := Lib.hid k8
  have R8 := Lib.hid r8
  have B8 := Lib.hid b8
  have b80 := b8.c0
  have b81 := b8.c1
  clear hHeld k7 b7 r7 hb7 hb8 k8 b8 r8
  go_wp2_with fail
  go_quiet (fail)
  go_wp2_with fail
  refine (HO.out _ (spans_below Hsp.out (bel_drewN K8.out _))).mono ?_
  rintro e w9 ⟨rfl, hb9⟩
  have k9 := (bel_drewN K8.out nq).trans (hb9.mono (bel_drewN K8.out nq).size)
  have r9 := (R8.out.drewN nq).below hb9
  have c90 := r9.c0
  have c91 := r9.c1
  have f90 := r9.f0
  have f91 := r9.f1
  have K9 := Lib.hid k9
  have R9 := Lib.hid r9
  clear hb9 r9 k9
  go_wp2
  refine bodyPost_ret (results_bx2 rfl _ _ (w.heap.size + 1) (.string (bs z)) (.int .i64 (x : Int)) 43 rfl ((R9.out.set0 _).set1 _) Tryz.underlying43 (sizeBuf _)) rfl ?_
  exact ⟨rfl, (K9.out.setCell (p := ⟨w.heap.size + 1, 0, none⟩) (Nat.le_succ _) _).setCell (p := ⟨w.heap.size + 1, 1, none⟩) (Nat.le_succ _) _⟩
set_option maxHeartbeats 8000000 in
theorem swap_n (l : List UInt8) (n : Int) (hl : l.length ≤ 137438953472) (w : World) (hsp : Spans w) (hend : ¬ mA l n = (mS l).length) (hz : ¬ swMid (mS l) (mA l n) = 0) :
    Calls Tryz.prog 109 #[.agg #[.string (bs l), .int .i64 n]] w fun e w' => e = .returned (.tuple #[.agg #[.string (bs (swS (mS l) (prvL (mS l) (swMid (mS l) (mA l n))) (swMid (mS l) (mA l n)) (nxtL (mS l) (swMid (mS l) (mA l n))))), .int .i64 (onL (swS (mS l) (prvL (mS l) (swMid (mS l) (mA l n))) (swMid (mS l) (mA l n)) (nxtL (mS l) (swMid (mS l) (mA l n)))) (nxtL (mS l) (swMid (mS l) (mA l n)) : Int) : Int)], .bool true]) ∧ Below w.heap.size w w' := by
  have HM := Lib.hid (fun W h => make_calls l n hl W h)
  have ha := mA_le l n
  have hms := mS_len l
  have hrt := make_rt l n
  have hmd : swMid (mS l) (mA l n) = mA l n := if_neg hend
  have hbm := isB_mid hrt.2.2
  have hmr : Rt (mS l) (swMid (mS l) (mA l n)) := ⟨hrt.1, hrt.2.1, hbm⟩
  have hfl := prv_lt hbm
  have htg := nxt_ge hbm
  have htl : nxtL (mS l) (swMid (mS l) (mA l n)) ≤ (mS l).length := onL_le _ _
  have hml := hbm.le
  have HF := Lib.hid (fun W h => prev_calls (mS l) (swMid (mS l) (mA l n) : Int) (by omega) W h)
  rw [hmr.make.1, hmr.make.2] at HF
  have HT := Lib.hid (fun W h => next_callsT (mS l) (swMid (mS l) (mA l n) : Int) (by omega) W h)
  rw [hmr.make.1, hmr.make.2] at HT
  have hsl := swS_length (mS l) _ _ _ hfl htg htl
  have HO := Lib.hid (fun W h => on_calls (swS (mS l) (prvL (mS l) (swMid (mS l) (mA l n))) (swMid (mS l) (mA l n)) (nxtL (mS l) (swMid (mS l) (mA l n)))) (nxtL (mS l) (swMid (mS l) (mA l n)) : Int) (by omega) W h)
  have hx1 := bs_take (mS l) (prvL (mS l) (swMid (mS l) (mA l n)))
  have hx2 : (bs (mS l)).extract (swMid (mS l) (mA l n)) (nxtL (mS l) (swMid (mS l) (mA l n))) = bs (goneS (mS l) (swMid (mS l) (mA l n)) (nxtL (mS l) (swMid (mS l) (mA l n)))) := bs_mid _ _ _
  have hx3 : (bs (mS l)).extract (prvL (mS l) (swMid (mS l) (mA l n))) (swMid (mS l) (mA l n)) = bs (goneS (mS l) (prvL (mS l) (swMid (mS l) (mA l n))) (swMid (mS l) (mA l n))) := bs_mid _ _ _
  have hx4 := bs_drop (mS l) (nxtL (mS l) (swMid (mS l) (mA l n)))
  have hp3 : ∀ W : World, (Op.stringOp .add (bs ((mS l).take (prvL (mS l) (swMid (mS l) (mA l n))) ++ goneS (mS l) (swMid (mS l) (mA l n)) (nxtL (mS l) (swMid (mS l) (mA l n))) ++ goneS (mS l) (prvL (mS l) (swMid (mS l) (mA l n))) (swMid (mS l) (mA l n)))) (bs ((mS l).drop (nxtL (mS l) (swMid (mS l) (mA l n)))))).run Tryz.prog W = .ok (.string (bs (swS (mS l) (prvL (mS l) (swMid (mS l) (mA l n))) (swMid (mS l) (mA l n)) (nxtL (mS l) (swMid (mS l) (mA l n)))))) W :=
    add_bs Tryz.prog _ _ (by have e := hsl; unfold swS at e; rw [List.length_append] at e; omega)
  have hp2 := add_bs Tryz.prog ((mS l).take (prvL (mS l) (swMid (mS l) (mA l n))) ++ goneS (mS l) (swMid (mS l) (mA l n)) (nxtL (mS l) (swMid (mS l) (mA l n)))) (goneS (mS l) (prvL (mS l) (swMid (mS l) (mA l n))) (swMid (mS l) (mA l n))) (by have e := hsl; unfold swS at e; simp only [List.length_append] at e; rw [List.length_append]; omega)
  have hp1 := add_bs Tryz.prog ((mS l).take (prvL (mS l) (swMid (mS l) (mA l n)))) (goneS (mS l) (swMid (mS l) (mA l n)) (nxtL (mS l) (swMid (mS l) (mA l n)))) (by have e := hsl; unfold swS at e; simp only [List.length_append] at e; omega)
  clear hbm hmr
  generalize onL (swS (mS l) (prvL (mS l) (swMid (mS l) (mA l n))) (swMid (mS l) (mA l n)) (nxtL (mS l) (swMid (mS l) (mA l n)))) (nxtL (mS l) (swMid (mS l) (mA l n)) : Int) = x at *
  generalize swS (mS l) (prvL (mS l) (swMid (mS l) (mA l n))) (swMid (mS l) (mA l n)) (nxtL (mS l) (swMid (mS l) (mA l n))) = z at *
  generalize hA3 : (mS l).take (prvL (mS l) (swMid (mS l) (mA l n))) ++ goneS (mS l) (swMid (mS l) (mA l n)) (nxtL (mS l) (swMid (mS l) (mA l n))) ++ goneS (mS l) (prvL (mS l) (swMid (mS l) (mA l n))) (swMid (mS l) (mA l n)) = s3 at *
  generalize hA2 : (mS l).take (prvL (mS l) (swMid (mS l) (mA l n))) ++ goneS (mS l) (swMid (mS l) (mA l n)) (nxtL (mS l) (swMid (mS l) (mA l n))) = s2 at *
  clear hA3 hA2
  generalize (mS l).take (prvL (mS l) (swMid (mS l) (mA l n))) = t1 at *
  generalize goneS (mS l) (swMid (mS l) (mA l n)) (nxtL (mS l) (swMid (mS l) (mA l n))) = t2 at *
  generalize goneS (mS l) (prvL (mS l) (swMid (mS l) (mA l n))) (swMid (mS l) (mA l n)) = t3 at *
  generalize (mS l).drop (nxtL (mS l) (swMid (mS l) (mA l n))) = t4 at *
  generalize prvL (mS l) (swMid (mS l) (mA l n)) = f at *
  generalize nxtL (mS l) (swMid (mS l) (mA l n)) = t at *
  clear hrt
  generalize swMid (mS l) (mA l n) = d at *
  generalize mA l n = a at *
  generalize mS l = m at *
  have hszm := bs_size m
  have hszz := bs_size z
  have hi0 : (0 : Int) ≤ (f : Int) := by omega
  have hi1 : (f : Int) ≤ (d : Int) := by omega
  have hi2 : (0 : Int) ≤ (d : Int) := by omega
  have hi3 : (d : Int) ≤ (t : Int) := by omega
  have hi4 : (0 : Int) ≤ (t : Int) := by omega
  have hi5 : (t : Int) ≤ (m.length : Int) := by omega
  have hi6 : (d : Int) ≤ (m.length : Int) := by omega
  have hi7 : (f : Int) ≤ (m.length : Int) := by omega
  have hde : ((a : Int) == (m.length : Int)) = false := beq_eq_false_iff_ne.2 (by omega)
  have hdz : ((d : Int) == 0) = false := beq_eq_false_iff_ne.2 (by omega)
  have k0 : Below w.heap.size w ((w.alloc (.cells #[.string (bs l), .int .i64 n] 43)).alloc (.cells #[.string ⟨#[]⟩, .int .i64 0] 43)) := ((Below.refl _ w).alloc (Nat.le_refl _) _).alloc (by simp) _
  have b0 := (Bx.new w 43 (.string (bs l)) (.int .i64 n)).alloc (.cells #[.string ⟨#[]⟩, .int .i64 0] 43)
  have r0 := Bx.new (w.alloc (.cells #[.string (bs l), .int .i64 n] 43)) 43 (.string ⟨#[]⟩) (.int .i64 0)
  rw [World.size_alloc] at r0
  have c00 := b0.c0
  have c01 := b0.c1
  have Hsp := Lib.hid hsp
  clear hsp
  clear hend hz
  obtain rfl := hmd
  go_enter Tryz.func109, Tryz.ntmps109
  go_wp2_with fail
  refine (HM.out _ (spans_below Hsp.out k0)).mono ?_
  rintro e w1 ⟨rfl, hb1⟩
  have k1 := k0.trans (hb1.mono k0.size)
  have b1 := b0.below hb1
  have r1 := r0.below hb1
  clear hb1 c00 c01 b0 r0 k0
  have c10 := b1.c0
  have c11 := b1.c1
  have f10 := b1.f0
  have f11 := b1.f1
  have b3 := (b1.set0 (.string (bs m))).set1 (.int .i64 (d : Int))
  have r3 := (r1.other (i := 0) (Nat.succ_ne_self _) (.string (bs m))).other (i := 1) (Nat.succ_ne_self _) (.int .i64 (d : Int))
  have k3 := (k1.setCell (p := ⟨w.heap.size, 0, none⟩) (Nat.le_refl _) (.string (bs m))).setCell (p := ⟨w.heap.size, 1, none⟩) (Nat.le_refl _) (.int .i64 (d : Int))
  have b5 := b3
  have r5 := r3
  have k5 := k3
  clear b3 r3 k3 b1 r1 k1
  have b50 := b5.c0
  have b51 := b5.c1
  go_wp2_with fail
  have K6 := Lib.hid k5.drew
  have B6 := Lib.hid b5.drew
  have R6 := Lib.hid r5.drew
  clear k5 b5 r5 b50 b51
  refine wp_region_held_drew (S := (fun w' => w'.cell? ⟨w.heap.size, 0, none⟩ = some (.string (bs m)) ∧ w'.cell? ⟨w.heap.size, 1, none⟩ = some (.int .i64 (d : Int)))) (by kernel_rfl) ⟨B6.out.c0, B6.out.c1⟩ (fun hHeld => ?_)
  refine wpAnyH_take (i := 0) (oi := ⟨some 27, _, _, _, _, _⟩) (v := ?_) rfl (by kernel_rfl) (by kernel_rfl) (by kernel_rfl) (fun _ _ _ h => h) (Or.inl ⟨by kernel_rfl, ?hy0⟩) (by assumption) ?_
  case hy0 => (intro w' hSw; (try dsimp only at hSw); go_simp; try with_reducible rfl)
  simp only [Act.put, List.setIfInBounds_toArray, List.set_cons_zero, List.set_cons_succ]
  refine wpAnyH_take (i := 1) (oi := ⟨some 28, _, _, _, _, _⟩) (v := ?_) rfl (by kernel_rfl) (by kernel_rfl) (by kernel_rfl) (fun _ _ _ h => h) (Or.inl ⟨by kernel_rfl, ?hy1⟩) (by assumption) ?_
  case hy1 => (intro w' hSw; (try dsimp only at hSw); go_simp; try with_reducible rfl)
  simp only [Act.put, List.setIfInBounds_toArray, List.set_cons_zero, List.set_cons_succ]
  refine wpAnyH_take (i := 2) (oi := ⟨some 29, _, _, _, _, _⟩) (v := ?_) rfl (by kernel_rfl) (by kernel_rfl) (by kernel_rfl) (fun _ _ _ h => h) (Or.inl ⟨by kernel_rfl, ?hy2⟩) (by assumption) ?_
  case hy2 => (intro w' hSw; (try dsimp only at hSw); go_simp; try with_reducible rfl)
  simp only [Act.put, List.setIfInBounds_toArray, List.set_cons_zero, List.set_cons_succ]
  refine wpAnyH_take (i := 4) (oi := ⟨some 31, _, _, _, _, _⟩) (v := ?_) rfl (by kernel_rfl) (by kernel_rfl) (by kernel_rfl) (fun _ _ _ h => h) (Or.inl ⟨by kernel_rfl, ?hy4⟩) (by assumption) ?_
  case hy4 => (intro w' hSw; (try dsimp only at hSw); go_simp; try with_reducible rfl)
  simp only [Act.put, List.setIfInBounds_toArray, List.set_cons_zero, List.set_cons_succ]
  refine wpAnyH_take (i := 5) (oi := ⟨some 32, _, _, _, _, _⟩) (v := ?_) rfl (by kernel_rfl) (by kernel_rfl) (by kernel_rfl) (fun _ _ _ h => h) (Or.inl ⟨by kernel_rfl, ?hy5⟩) (by assumption) ?_
  case hy5 => (intro w' hSw; (try dsimp only at hSw); go_simp; try with_reducible rfl)
  simp only [Act.put, List.setIfInBounds_toArray, List.set_cons_zero, List.set_cons_succ]
  refine wpAnyH_take (i := 6) (oi := ⟨some 33, _, _, _, _, _⟩) (v := ?_) rfl (by kernel_rfl) (by kernel_rfl) (by kernel_rfl) (fun _ _ _ h => h) (Or.inl ⟨by kernel_rfl, ?hy6⟩) (by assumption) ?_
  case hy6 => (intro w' hSw; (try dsimp only at hSw); go_simp; try with_reducible rfl)
  simp only [Act.put, List.setIfInBounds_toArray, List.set_cons_zero, List.set_cons_succ]
  refine wpAnyH_ready (rs := [3]) (by kernel_rfl) (by simp) ?_
  refine AllReadyH.cons (o := ⟨some 30, _, _, _, _, _⟩) rfl (fun K hK => ?_) AllReadyH.nil
  (rw [if_pos (by kernel_rfl)])
  go_simp
  (refine (HF.out _ (spans_below Hsp.out K6.out)).mono ?_; rintro e w7 ⟨rfl, hb7⟩; have k7 := K6.out.trans (hb7.mono K6.out.size); have b7 := B6.out.below hb7; have r7 := R6.out.below hb7)
  refine hK.out _ _ ⟨b7.c0, b7.c1⟩ (fun hHeld => ?_)
  clear hK K
  refine wpAnyH_ready (rs := [7]) (by kernel_rfl) (by simp) ?_
  refine AllReadyH.cons (o := ⟨some 34, _, _, _, _, _⟩) rfl (fun K hK => ?_) AllReadyH.nil
  (rw [if_pos (by kernel_rfl)])
  go_simp
  (refine (HT.out _ (spans_below Hsp.out k7)).mono ?_; rintro e w8 ⟨rfl, hb8⟩; have k8 := k7.trans (hb8.mono k7.size); have b8 := b7.below hb8; have r8 := r7.below hb8)
  refine hK.out _ _ ⟨b8.c0, b8.c1⟩ (fun hHeld => ?_)
  clear hK K
  refine wpAnyH_take (i := 8) (oi := ⟨some 5, _, _, _, _, _⟩) (v := ?_) rfl (by kernel_rfl) (by kernel_rfl) (by kernel_rfl) (fun _ _ _ h => h) (Or.inl ⟨by kernel_rfl, ?hy8⟩) (by assumption) ?_
  case hy8 => (intro w' hSw; (try dsimp only at hSw); go_simp; try with_reducible rfl)
  simp only [Act.put, List.setIfInBounds_toArray, List.set_cons_zero, List.set_cons_succ]
  refine wpAnyH_take (i := 9) (oi := ⟨some 6, _, _, _, _, _⟩) (v := ?_) rfl (by kernel_rfl) (by kernel_rfl) (by kernel_rfl) (fun _ _ _ h => h) (Or.inl ⟨by kernel_rfl, ?hy9⟩) (by assumption) ?_
  case hy9 => (intro w' hSw; (try dsimp only at hSw); go_simp; try with_reducible rfl)
  simp only [Act.put, List.setIfInBounds_toArray, List.set_cons_zero, List.set_cons_succ]
  refine wpAnyH_done (by kernel_rfl) ?_ _
  have K8 := Lib.hid k8
  have R8 := Lib.hid r8
  have B8 := Lib.hid b8
  have b80 := b8.c0
  have b81 := b8.c1
  clear hHeld k7 b7 r7 hb7 hb8 k8 b8 r8
  go_wp2_with fail
  go_quiet (fail)
  go_wp2_with fail
  refine (HO.out _ (spans_below Hsp.out (bel_drewN K8.out _))).mono ?_
  rintro e w9 ⟨rfl, hb9⟩
  have k9 := (bel_drewN K8.out nq).trans (hb9.mono (bel_drewN K8.out nq).size)
  have r9 := (R8.out.drewN nq).below hb9
  have c90 := r9.c0
  have c91 := r9.c1
  have f90 := r9.f0
  have f91 := r9.f1
  have K9 := Lib.hid k9
  have R9 := Lib.hid r9
  clear hb9 r9 k9
  go_wp2
  refine bodyPost_ret (results_bx2 rfl _ _ (w.heap.size + 1) (.string (bs z)) (.int .i64 (x : Int)) 43 rfl ((R9.out.set0 _).set1 _) Tryz.underlying43 (sizeBuf _)) rfl ?_
  exact ⟨rfl, (K9.out.setCell (p := ⟨w.heap.size + 1, 0, none⟩) (Nat.le_succ _) _).setCell (p := ⟨w.heap.size + 1, 1, none⟩) (Nat.le_succ _) _⟩
theorem swap_calls (l : List UInt8) (n : Int) (hl : l.length ≤ 137438953472) (w : World) (hsp : Spans w) :
    Calls Tryz.prog 109 #[.agg #[.string (bs l), .int .i64 n]] w fun e w' => e = .returned (.tuple #[.agg #[.string (bs (swapR (mS l) (mA l n)).1), .int .i64 ((swapR (mS l) (mA l n)).2.1 : Int)], .bool (swapR (mS l) (mA l n)).2.2]) ∧ Below w.heap.size w w' := by
  unfold swapR
  by_cases hz : swMid (mS l) (mA l n) = 0
  · rw [if_pos hz]
    dsimp only
    by_cases hend : mA l n = (mS l).length
    · exact swap_ez l n hl w hsp hend hz
    · exact swap_nz l n hl w hsp hend hz
  · rw [if_neg hz]
    dsimp only
    by_cases hend : mA l n = (mS l).length
    · exact swap_e l n hl w hsp hend hz
    · exact swap_n l n hl w hsp hend hz
end
section
open Go Go.RowKit
set_option maxRecDepth 100000
section
variable (w : World) (O F : Nat → Prop) (b : Nat) (s : LN)
set_option maxHeartbeats 2000000 in
theorem act_swap (k0 : Int) (t : ByteArray) (h : LineL w O F b s) (hsp : Spans w) :
    Calls Tryz.prog 74 #[.pointer (some ⟨b, 0, none⟩), .agg #[.int .i64 k0, .string t]] w fun e w' => e = .returned (dV .none) ∧ ToLn w O F w' b ⟨if (swapR s.buf.1 s.buf.2).2.2 = true then wrG s.log ((swapR s.buf.1 s.buf.2).1, (swapR s.buf.1 s.buf.2).2.1) 0 else s.log, s.ring, s.last⟩ := by
  obtain ⟨W2, hW2, hB2, hs2, hk2, hd2⟩ := boxesA w k0 t
  have HB2 := Lib.hid hB2
  have HN2 := Lib.hid hs2
  have HD2 := Lib.hid hd2
  have H := Lib.hid h
  have H2 := Lib.hid (objLn.below h hB2)
  have HS := Lib.hid hsp
  have hrt := (line_ok h).rt.1
  have hl6 : s.buf.1.length ≤ 137438953472 := Nat.le_trans hrt.2.1 (by decide)
  have e1 : mS s.buf.1 = s.buf.1 := hrt.make.1
  have e2 : mA s.buf.1 s.buf.2 = s.buf.2 := hrt.make.2
  have HQ := Lib.hid (fun W hS => swap_calls s.buf.1 s.buf.2 hl6 W hS)
  rw [e1, e2] at HQ
  have HR : Hid (Rt (swapR s.buf.1 s.buf.2).1 (swapR s.buf.1 s.buf.2).2.1) := Lib.hid (swap_rt (line_ok h).rt.1).1
  generalize swapR s.buf.1 s.buf.2 = c at *
  obtain ⟨cs, ca, is_⟩ := c
  dsimp only at HQ HR ⊢
  clear h hsp hB2 hs2 hk2 hd2 hrt hl6 e1 e2
  go_enter Tryz.func74, Tryz.ntmps74
  go_wp2_with fail
  refine (buf_callsL W2 O F b s H2.out (spans_below HS.out HB2.out)).mono ?_
  rintro e w3 ⟨rfl, hb3⟩
  have HB3 := Lib.hid hb3
  clear hb3
  go_wp2_with fail
  refine (HQ.out w3 (spans_below HS.out (HB2.out.trans (HB3.out.mono HB2.out.size)))).mono ?_
  rintro e w4 ⟨rfl, hb4⟩
  have hb4' := HB3.out.trans (hb4.mono HB3.out.size)
  have x3 := Bx.new w4 43 (.string ⟨#[]⟩) (.int .i64 0)
  have f0 := x3.f0
  have f1 := x3.f1
  have g0 := x3.c0
  have g1 := x3.c1
  have x4 := Bx.new w4 43 (.string (bs cs)) (.int .i64 (ca : Int))
  have hb5 := hb4'.alloc hb4'.size (.cells #[.string (bs cs), .int .i64 (ca : Int)] 43)
  obtain ⟨W4, hW4⟩ : ∃ W4, w4.alloc (.cells #[.string (bs cs), .int .i64 (ca : Int)] 43) = W4 := ⟨_, rfl⟩
  rw [hW4] at x4 hb5
  have y0 := x4.c0
  have y1 := x4.c1
  have HB5 := Lib.hid hb5
  clear x3 x4 hb5 hb4 hb4' HQ
  cases is_ with
  | true =>
    go_wp2_with fail
    refine (write_callsL W4 O F b s (objLn.below H2.out HB5.out) (cs, ca) HR.out).mono ?_
    rintro e w8 ⟨rfl, ht⟩
    have hf := fin3 H.out HB2.out (Nat.le_add_right _ 1) (by have := HN2.out; omega) HD2.out HB5.out ht
    have HF := Lib.hid hf.2
    have hd9 := hf.1
    have q0 := hd9.c 0 rfl
    have q1 := hd9.c 1 rfl
    have q2 := hd9.c 2 rfl
    have p0 := hd9.free 0
    have p1 := hd9.free 1
    have p2 := hd9.free 2
    have HD9 := Lib.hid hd9
    clear hf hd9
    go_wp2_with fail
    refine bodyPost_ret (results_bx3 rfl _ _ (w.heap.size + 1) _ _ _ 60 rfl (three_box HD9.out _ _ _) Tryz.underlying60 (szD _)) rfl ?_
    exact ⟨rfl, HF.out _ _ _⟩
  | false =>
    have hf := fin3 H.out HB2.out (Nat.le_add_right _ 1) (by have := HN2.out; omega) HD2.out HB5.out (ToF.refl (objLn.below H2.out HB5.out))
    have HF := Lib.hid hf.2
    have hd9 := hf.1
    have q0 := hd9.c 0 rfl
    have q1 := hd9.c 1 rfl
    have q2 := hd9.c 2 rfl
    have p0 := hd9.free 0
    have p1 := hd9.free 1
    have p2 := hd9.free 2
    have HD9 := Lib.hid hd9
    clear hf hd9
    go_wp2_with fail
    refine bodyPost_ret (results_bx3 rfl _ _ (w.heap.size + 1) _ _ _ 60 rfl (three_box HD9.out _ _ _) Tryz.underlying60 (szD _)) rfl ?_
    exact ⟨rfl, HF.out _ _ _⟩
set_option maxHeartbeats 2000000 in
theorem act_undo (k0 : Int) (t : ByteArray) (h : LineL w O F b s) (hsp : Spans w) :
    Calls Tryz.prog 87 #[.pointer (some ⟨b, 0, none⟩), .agg #[.int .i64 k0, .string t]] w fun e w' => e = .returned (dV .none) ∧ ToLn w O F w' b ⟨s.log.undo, s.ring, s.last⟩ := by
  obtain ⟨W2, hW2, hB2, hs2, hk2, hd2⟩ := boxesA w k0 t
  have HB2 := Lib.hid hB2
  have HN2 := Lib.hid hs2
  have HD2 := Lib.hid hd2
  have H := Lib.hid h
  have H2 := Lib.hid (objLn.below h hB2)
  have HS := Lib.hid hsp
  have hrt := (line_ok h).rt.1
  have hl6 : s.buf.1.length ≤ 137438953472 := Nat.le_trans hrt.2.1 (by decide)
  have e1 : mS s.buf.1 = s.buf.1 := hrt.make.1
  have e2 : mA s.buf.1 s.buf.2 = s.buf.2 := hrt.make.2
  clear h hsp hB2 hs2 hk2 hd2 hrt hl6 e1 e2
  obtain ⟨g, r, Rl, Rr, hA⟩ := H2.out
  have c0 := hA.box.c 0 rfl
  have HA := Lib.hid hA
  have HU := Lib.hid (undo_callsB W2 Rl g s.log hA.log)
  clear hA
  go_enter Tryz.func87, Tryz.ntmps87
  go_wp2_with fail
  refine HU.out.mono ?_
  rintro e w3 ⟨rfl, htb⟩
  have ht : ToLn W2 O F w3 b ⟨s.log.undo, s.ring, s.last⟩ := HA.out.log_to htb ⟨HA.out.ok.log.undo, (LN.undo_lim _).trans HA.out.ok.lim, HA.out.ok.rt.undo, HA.out.ok.ring, HA.out.ok.rlim⟩
  clear htb HU
  have hf := fin3 H.out HB2.out (Nat.le_add_right _ 1) (by have := HN2.out; omega) HD2.out (Below.refl _ W2) ht
  have HF := Lib.hid hf.2
  have hd9 := hf.1
  have q0 := hd9.c 0 rfl
  have q1 := hd9.c 1 rfl
  have q2 := hd9.c 2 rfl
  have p0 := hd9.free 0
  have p1 := hd9.free 1
  have p2 := hd9.free 2
  have HD9 := Lib.hid hd9
  clear hf hd9
  go_wp2_with fail
  refine bodyPost_ret (results_bx3 rfl _ _ (w.heap.size + 1) _ _ _ 60 rfl (three_box HD9.out _ _ _) Tryz.underlying60 (szD _)) rfl ?_
  exact ⟨rfl, HF.out _ _ _⟩
set_option maxHeartbeats 2000000 in
theorem act_redo (k0 : Int) (t : ByteArray) (h : LineL w O F b s) (hsp : Spans w) :
    Calls Tryz.prog 88 #[.pointer (some ⟨b, 0, none⟩), .agg #[.int .i64 k0, .string t]] w fun e w' => e = .returned (dV .none) ∧ ToLn w O F w' b ⟨s.log.redo, s.ring, s.last⟩ := by
  obtain ⟨W2, hW2, hB2, hs2, hk2, hd2⟩ := boxesA w k0 t
  have HB2 := Lib.hid hB2
  have HN2 := Lib.hid hs2
  have HD2 := Lib.hid hd2
  have H := Lib.hid h
  have H2 := Lib.hid (objLn.below h hB2)
  have HS := Lib.hid hsp
  have hrt := (line_ok h).rt.1
  have hl6 : s.buf.1.length ≤ 137438953472 := Nat.le_trans hrt.2.1 (by decide)
  have e1 : mS s.buf.1 = s.buf.1 := hrt.make.1
  have e2 : mA s.buf.1 s.buf.2 = s.buf.2 := hrt.make.2
  clear h hsp hB2 hs2 hk2 hd2 hrt hl6 e1 e2
  obtain ⟨g, r, Rl, Rr, hA⟩ := H2.out
  have c0 := hA.box.c 0 rfl
  have HA := Lib.hid hA
  have HU := Lib.hid (redo_callsB W2 Rl g s.log hA.log)
  clear hA
  go_enter Tryz.func88, Tryz.ntmps88
  go_wp2_with fail
  refine HU.out.mono ?_
  rintro e w3 ⟨rfl, htb⟩
  have ht : ToLn W2 O F w3 b ⟨s.log.redo, s.ring, s.last⟩ := HA.out.log_to htb ⟨HA.out.ok.log.redo, (LN.redo_lim _).trans HA.out.ok.lim, HA.out.ok.rt.redo, HA.out.ok.ring, HA.out.ok.rlim⟩
  clear htb HU
  have hf := fin3 H.out HB2.out (Nat.le_add_right _ 1) (by have := HN2.out; omega) HD2.out (Below.refl _ W2) ht
  have HF := Lib.hid hf.2
  have hd9 := hf.1
  have q0 := hd9.c 0 rfl
  have q1 := hd9.c 1 rfl
  have q2 := hd9.c 2 rfl
  have p0 := hd9.free 0
  have p1 := hd9.free 1
  have p2 := hd9.free 2
  have HD9 := Lib.hid hd9
  clear hf hd9
  go_wp2_with fail
  refine bodyPost_ret (results_bx3 rfl _ _ (w.heap.size + 1) _ _ _ 60 rfl (three_box HD9.out _ _ _) Tryz.underlying60 (szD _)) rfl ?_
  exact ⟨rfl, HF.out _ _ _⟩
end
end
section
open Go Go.RowKit
set_option maxRecDepth 100000
/-- How a kill is put to the newest one: the function's number. -/
def joinF (ahead : Bool) : Nat := if ahead then 130 else 129
theorem add_arr (x g : ByteArray) (h : x.size + g.size ≤ 2000000) (W : World) : (Op.stringOp .add x g).run Tryz.prog W = .ok (.string (x ++ g)) W := run_string_add_sum (P := Tryz.prog) (w := W) x g (by omega)
theorem join_to (x g : ByteArray) (h : x.size + g.size ≤ 2000000) (w : World) : Calls Tryz.prog 129 #[.string x, .string g] w fun e w' => e = .returned (.string (x ++ g)) ∧ Below w.heap.size w w' := by
  have ha := add_arr x g h
  go_enter Tryz.func129, Tryz.ntmps129
  go_wp2_with fail
  go_ret
  exact ⟨rfl, Below.refl _ _⟩
theorem join_from (x g : ByteArray) (h : x.size + g.size ≤ 2000000) (w : World) : Calls Tryz.prog 130 #[.string x, .string g] w fun e w' => e = .returned (.string (g ++ x)) ∧ Below w.heap.size w w' := by
  have ha := add_arr g x (by omega)
  go_enter Tryz.func130, Tryz.ntmps130
  go_wp2_with fail
  go_ret
  exact ⟨rfl, Below.refl _ _⟩
theorem keep1_calls (ahead : Bool) (x g : ByteArray) (h : x.size + g.size ≤ 2000000) (w : World) (kg kf : Nat) (hg : Boxed w kg 9 (.string g)) (hf : Boxed w kf 149 (.func (.func (joinF ahead)) #[] #[])) :
    Calls Tryz.prog 138 #[.string x, .pointer (some ⟨kf, 0, none⟩), .pointer (some ⟨kg, 0, none⟩)] w fun e w' => e = .returned (.string (LN.onto ahead g x)) ∧ Below w.heap.size w w' := by
  have c0 := hg.cell
  have c1 := hf.cell
  unfold joinF at c1
  unfold LN.onto
  cases ahead with
  | true =>
    rw [if_pos rfl] at c1 ⊢
    go_enter Tryz.func138, Tryz.ntmps138
    go_wp2_with fail
    refine (join_from x g h w).mono ?_
    rintro e w2 ⟨rfl, hb⟩
    go_wp2_with fail
    go_ret
    exact ⟨rfl, hb⟩
  | false =>
    rw [if_neg Bool.false_ne_true] at c1 ⊢
    go_enter Tryz.func138, Tryz.ntmps138
    go_wp2_with fail
    refine (join_to x g h w).mono ?_
    rintro e w2 ⟨rfl, hb⟩
    go_wp2_with fail
    go_ret
    exact ⟨rfl, hb⟩
theorem Below.drewR {w : World} : Below w.heap.size w w.drew := (Below.refl _ w).drew
section
variable (w : World) (O F : Nat → Prop) (b : Nat) (s : LN)
theorem boxed_bel {w w' : World} {g : Nat} {t : TypeId} {v : Value} (h : Boxed w g t v) (hb : Below w.heap.size w w') : Boxed w' g t v := (hb.block g h.lt).trans h
/-- What keep lays first. -/
theorem boxesK (w : World) (g f : Value) : ∃ W2, (w.alloc (.cells #[g] 9)).alloc (.cells #[f] 149) = W2 ∧ Below w.heap.size w W2 ∧ W2.heap.size = w.heap.size + 2 ∧ Boxed W2 w.heap.size 9 g ∧ Boxed W2 (w.heap.size + 1) 149 f := by
  refine ⟨_, rfl, ((Below.refl _ w).alloc (Nat.le_refl _) _).alloc (by rw [World.size_alloc]; omega) _, by rw [World.size_alloc, World.size_alloc], boxed_bel (Boxed.new w _ _) ((Below.refl _ _).alloc (Nat.le_refl _) _), ?_⟩
  have := Boxed.new (w.alloc (.cells #[g] 9)) 149 f
  rwa [World.size_alloc] at this
set_option maxHeartbeats 2000000 in
theorem keep_callsL (h : LineL w O F b s) (g : List UInt8) (hg : g ≠ []) (hg6 : g.length ≤ 600) (hB : SmR s.ring 1000000) (ahead : Bool) :
    Calls Tryz.prog 136 #[.pointer (some ⟨b, 0, none⟩), .string (bs g), .func (.func (joinF ahead)) #[] #[]] w fun e w' => e = .returned (.tuple #[]) ∧ ToLn w O F w' b ⟨s.log, LN.killed s.ring s.last ahead g, s.last⟩ := by
  obtain ⟨W2, hW2, hB2, hs2, hk2, hd2⟩ := boxesK w (.string (bs g)) (.func (.func (joinF ahead)) #[] #[])
  have HS2 : Hid (StepF w O F W2 O F) := Lib.hid (StepF.below O F hB2)
  obtain ⟨n, r, Rl, Rr, hA⟩ := objLn.below h hB2
  have hrl := hA.ring.lt r hA.ring.ins
  have hO := (hA.hO r).2 (.inr (.inr hA.ring.ins))
  have c1 := hA.box.c 1 rfl
  have c2 := hA.box.c 2 rfl
  have HA := Lib.hid hA
  have hgs := bs_size g
  have HC := Lib.hid (change_callsS W2 Rr r s.ring hA.ring 138 #[.pointer (some ⟨w.heap.size + 1, 0, none⟩), .pointer (some ⟨w.heap.size, 0, none⟩)] (enters_of Tryz.func138 (by kernel_rfl) rfl) (LN.onto ahead (bs g)) (fun W x hW hx => keep1_calls ahead x (bs g) (by have := hB x (List.mem_of_getElem? hx); omega) W w.heap.size (w.heap.size + 1) (boxed_bel hk2 hW) (boxed_bel hd2 hW)))
  have hdd : decide (0 < s.ring.l.length) = decide (s.ring.l ≠ []) := by
    cases s.ring.l with
    | nil => rfl
    | cons x t => rfl
  have HX : Hid (b < w.heap.size ∧ n < w.heap.size) := Lib.hid ⟨objLn.lt h b (.inl ((hA.hO b).2 (.inl rfl))), objLn.lt h n (.inl ((hA.hO n).2 (.inr (.inl rfl))))⟩
  by_cases hl : s.last = .kill
  · rw [hl, show kdL .kill = 1 from rfl] at c2
    by_cases hr : s.ring.l = []
    · have hkl : LN.killed s.ring s.last ahead g = (s.ring.change (LN.onto ahead (bs g))).push (bs g) := by
        unfold LN.killed
        rw [if_neg hg, if_neg (fun e => e.2 hr)]
        show (⟨s.ring.lim, bs g :: s.ring.l.take (s.ring.lim - 1), 0⟩ : RS ByteArray) = ⟨s.ring.lim, bs g :: (chL _ s.ring.l).take (s.ring.lim - 1), 0⟩
        rw [hr]; rfl
      rw [hdd, hr, show decide (([] : List ByteArray) ≠ []) = false from rfl] at HC
      rw [hkl]
      have hno : ¬ Rr w.heap.size := fun hk => by have := objLn.lt h _ (.inl ((hA.hO _).2 (.inr (.inr hk)))); omega
      have hn2 := hs2
      clear hA h hd2 hdd hl hr hkl
      go_enter Tryz.func136, Tryz.ntmps136
      go_wp2_with fail
      refine HC.out.mono ?_
      rintro e w3 ⟨rfl, ht⟩
      obtain ⟨Rn, hRn⟩ := id ht
      have hG : Boxed w3 w.heap.size 9 (.string (bs g)) := (hRn.2.1.block _ (by omega) hno).trans hk2
      have HG := Lib.hid hG
      obtain ⟨Rr1, O1, hA1, hst⟩ := HA.out.ring_at ht ⟨HA.out.ok.log, HA.out.ok.lim, HA.out.ok.rt, HA.out.ok.ring.change _, HA.out.ok.rlim⟩
      have HNR : Hid (¬ Rr1 w.heap.size) := Lib.hid (fun hk => by
        rcases hst.2.1 _ ((hA1.hO _).2 (.inr (.inr hk))) with h1 | h1
        · rcases (HA.out.hO _).1 h1 with e | e | e
          · have := HX.out.1; omega
          · have := HX.out.2; omega
          · exact hno e
        · omega)
      have HA1 := Lib.hid hA1
      have HST := Lib.hid (HS2.out.trans hst)
      clear hA1 hst hG hRn ht hk2 hn2 hno
      have HP := Lib.hid (push_callsS w3.drew Rr1 r (s.ring.change (LN.onto ahead (bs g))) (HA1.out.ring.below Below.drewR) (bs g))
      have HSS : Hid (∀ w' : World, Only Rr1 w3.drew w' → w'.cell? ⟨b, 1, none⟩ = some (.pointer (some ⟨r, 0, none⟩)) ∧ w'.cell? ⟨w.heap.size, 0, none⟩ = some (.string (bs g))) := Lib.hid (fun w' ho => ⟨((HA1.out.box.below Below.drewR).keep ho HA1.out.nr).c 1 rfl, ho.cell (boxed_bel HG.out Below.drewR).cell HNR.out⟩)
      have s0 := HA1.out.box.c 1 rfl
      have s1 := HG.out.cell
      go_upto_region 3 with fail
      refine wp_region_held_drew (S := (fun w' => w'.cell? ⟨b, 1, none⟩ = some (.pointer (some ⟨r, 0, none⟩)) ∧ w'.cell? ⟨w.heap.size, 0, none⟩ = some (.string (bs g)))) (by kernel_rfl) ⟨s0, s1⟩ (fun hHeld => ?_)
      refine wpAnyH_take (i := 0) (oi := ⟨some 23, _, _, _, _, _⟩) (v := ?_) rfl (by kernel_rfl) (by kernel_rfl) (by kernel_rfl) (fun _ _ _ h => h) (Or.inl ⟨by kernel_rfl, ?hy0⟩) (by assumption) ?_
      case hy0 => (intro w' hSw; (try dsimp only at hSw); go_simp; try with_reducible rfl)
      simp only [Act.put, List.setIfInBounds_toArray, List.set_cons_zero, List.set_cons_succ]
      refine wpAnyH_take (i := 1) (oi := ⟨some 24, _, _, _, _, _⟩) (v := ?_) rfl (by kernel_rfl) (by kernel_rfl) (by kernel_rfl) (fun _ _ _ h => h) (Or.inl ⟨by kernel_rfl, ?hy1⟩) (by assumption) ?_
      case hy1 => (intro w' hSw; (try dsimp only at hSw); go_simp; try with_reducible rfl)
      simp only [Act.put, List.setIfInBounds_toArray, List.set_cons_zero, List.set_cons_succ]
      refine wpAnyH_take (i := 2) (oi := ⟨some 25, _, _, _, _, _⟩) (v := ?_) rfl (by kernel_rfl) (by kernel_rfl) (by kernel_rfl) (fun _ _ _ h => h) (Or.inl ⟨by kernel_rfl, ?hy2⟩) (by assumption) ?_
      case hy2 => (intro w' hSw; (try dsimp only at hSw); go_simp; try with_reducible rfl)
      simp only [Act.put, List.setIfInBounds_toArray, List.set_cons_zero, List.set_cons_succ]
      refine wpAnyH_take (i := 3) (oi := ⟨some 26, _, _, _, _, _⟩) (v := ?_) rfl (by kernel_rfl) (by kernel_rfl) (by kernel_rfl) (fun _ _ _ h => h) (Or.inl ⟨by kernel_rfl, ?hy3⟩) (by assumption) ?_
      case hy3 => (intro w' hSw; (try dsimp only at hSw); go_simp; try with_reducible rfl)
      simp only [Act.put, List.setIfInBounds_toArray, List.set_cons_zero, List.set_cons_succ]
      refine wpAnyH_take (i := 4) (oi := ⟨some 27, _, _, _, _, _⟩) (v := ?_) rfl (by kernel_rfl) (by kernel_rfl) (by kernel_rfl) (fun _ _ _ h => h) (Or.inl ⟨by kernel_rfl, ?hy4⟩) (by assumption) ?_
      case hy4 => (intro w' hSw; (try dsimp only at hSw); go_simp; try with_reducible rfl)
      simp only [Act.put, List.setIfInBounds_toArray, List.set_cons_zero, List.set_cons_succ]
      refine wpAnyH_ready (rs := [5]) (by kernel_rfl) (by simp) ?_
      refine AllReadyH.cons (o := ⟨some 28, _, _, _, _, _⟩) rfl (fun K hK => ?_) AllReadyH.nil
      (rw [if_pos (by kernel_rfl)])
      go_simp
      refine HP.out.mono ?_
      rintro e w8 ⟨rfl, ht⟩
      have hS := HSS.out w8 (by obtain ⟨_, _, ho, _⟩ := ht; exact ho)
      have hto := (HA1.out.below Below.drewR).ring_to ht ⟨HA1.out.ok.log, HA1.out.ok.lim, HA1.out.ok.rt, HA1.out.ok.ring.push _, HA1.out.ok.rlim⟩
      have HT := Lib.hid (((HST.out.trans (StepF.below _ _ Below.drewR))).tom hto)
      clear ht hto HP HSS
      refine hK.out _ _ hS (fun hHeld => ?_)
      clear hK K
      refine wpAnyH_done (by kernel_rfl) ?_ _
      go_wp2_with fail
      go_end0
      exact ⟨rfl, HT.out⟩
    · have hkl : LN.killed s.ring s.last ahead g = s.ring.change (LN.onto ahead (bs g)) := by
        unfold LN.killed
        rw [if_neg hg, if_pos ⟨hl, hr⟩]
      rw [hdd, decide_eq_true hr] at HC
      rw [hkl]
      clear hA h hk2 hd2 hdd hl hr hkl
      go_enter Tryz.func136, Tryz.ntmps136
      go_wp2_with fail
      refine HC.out.mono ?_
      rintro e w3 ⟨rfl, ht⟩
      have hto := HA.out.ring_to ht ⟨HA.out.ok.log, HA.out.ok.lim, HA.out.ok.rt, HA.out.ok.ring.change _, HA.out.ok.rlim⟩
      go_wp2_with fail
      go_end0
      exact ⟨rfl, HS2.out.tom hto⟩
  · have hk1 : (kdL s.last == 1) = false := by
      cases hq : s.last with
      | none => rfl
      | kill => exact absurd hq hl
      | yank f t => rfl
    have hkl : LN.killed s.ring s.last ahead g = s.ring.push (bs g) := by
      unfold LN.killed
      rw [if_neg hg, if_neg (fun e => hl e.1)]
    rw [hkl]
    have HG := Lib.hid hk2
    have HNR : Hid (¬ Rr w.heap.size) := Lib.hid (fun hk => by have := objLn.lt h _ (.inl ((hA.hO _).2 (.inr (.inr hk)))); omega)
    clear hA h hk2 hd2 hdd hl hkl HC
    go_enter Tryz.func136, Tryz.ntmps136
    have HP := Lib.hid (push_callsS W2.drew Rr r s.ring (HA.out.ring.below Below.drewR) (bs g))
    have HSS : Hid (∀ w' : World, Only Rr W2.drew w' → w'.cell? ⟨b, 1, none⟩ = some (.pointer (some ⟨r, 0, none⟩)) ∧ w'.cell? ⟨w.heap.size, 0, none⟩ = some (.string (bs g))) := Lib.hid (fun w' ho => ⟨((HA.out.box.below Below.drewR).keep ho HA.out.nr).c 1 rfl, ho.cell (boxed_bel HG.out Below.drewR).cell HNR.out⟩)
    have s0 := HA.out.box.c 1 rfl
    have s1 := HG.out.cell
    go_upto_region 3 with fail
    refine wp_region_held_drew (S := (fun w' => w'.cell? ⟨b, 1, none⟩ = some (.pointer (some ⟨r, 0, none⟩)) ∧ w'.cell? ⟨w.heap.size, 0, none⟩ = some (.string (bs g)))) (by kernel_rfl) ⟨s0, s1⟩ (fun hHeld => ?_)
    refine wpAnyH_take (i := 0) (oi := ⟨some 23, _, _, _, _, _⟩) (v := ?_) rfl (by kernel_rfl) (by kernel_rfl) (by kernel_rfl) (fun _ _ _ h => h) (Or.inl ⟨by kernel_rfl, ?hy0⟩) (by assumption) ?_
    case hy0 => (intro w' hSw; (try dsimp only at hSw); go_simp; try with_reducible rfl)
    simp only [Act.put, List.setIfInBounds_toArray, List.set_cons_zero, List.set_cons_succ]
    refine wpAnyH_take (i := 1) (oi := ⟨some 24, _, _, _, _, _⟩) (v := ?_) rfl (by kernel_rfl) (by kernel_rfl) (by kernel_rfl) (fun _ _ _ h => h) (Or.inl ⟨by kernel_rfl, ?hy1⟩) (by assumption) ?_
    case hy1 => (intro w' hSw; (try dsimp only at hSw); go_simp; try with_reducible rfl)
    simp only [Act.put, List.setIfInBounds_toArray, List.set_cons_zero, List.set_cons_succ]
    refine wpAnyH_take (i := 2) (oi := ⟨some 25, _, _, _, _, _⟩) (v := ?_) rfl (by kernel_rfl) (by kernel_rfl) (by kernel_rfl) (fun _ _ _ h => h) (Or.inl ⟨by kernel_rfl, ?hy2⟩) (by assumption) ?_
    case hy2 => (intro w' hSw; (try dsimp only at hSw); go_simp; try with_reducible rfl)
    simp only [Act.put, List.setIfInBounds_toArray, List.set_cons_zero, List.set_cons_succ]
    refine wpAnyH_take (i := 3) (oi := ⟨some 26, _, _, _, _, _⟩) (v := ?_) rfl (by kernel_rfl) (by kernel_rfl) (by kernel_rfl) (fun _ _ _ h => h) (Or.inl ⟨by kernel_rfl, ?hy3⟩) (by assumption) ?_
    case hy3 => (intro w' hSw; (try dsimp only at hSw); go_simp; try with_reducible rfl)
    simp only [Act.put, List.setIfInBounds_toArray, List.set_cons_zero, List.set_cons_succ]
    refine wpAnyH_take (i := 4) (oi := ⟨some 27, _, _, _, _, _⟩) (v := ?_) rfl (by kernel_rfl) (by kernel_rfl) (by kernel_rfl) (fun _ _ _ h => h) (Or.inl ⟨by kernel_rfl, ?hy4⟩) (by assumption) ?_
    case hy4 => (intro w' hSw; (try dsimp only at hSw); go_simp; try with_reducible rfl)
    simp only [Act.put, List.setIfInBounds_toArray, List.set_cons_zero, List.set_cons_succ]
    refine wpAnyH_ready (rs := [5]) (by kernel_rfl) (by simp) ?_
    refine AllReadyH.cons (o := ⟨some 28, _, _, _, _, _⟩) rfl (fun K hK => ?_) AllReadyH.nil
    (rw [if_pos (by kernel_rfl)])
    go_simp
    refine HP.out.mono ?_
    rintro e w8 ⟨rfl, ht⟩
    have hS := HSS.out w8 (by obtain ⟨_, _, ho, _⟩ := ht; exact ho)
    have hto := (HA.out.below Below.drewR).ring_to ht ⟨HA.out.ok.log, HA.out.ok.lim, HA.out.ok.rt, HA.out.ok.ring.push _, HA.out.ok.rlim⟩
    have HT := Lib.hid (((HS2.out.trans (StepF.below _ _ Below.drewR))).tom hto)
    clear ht hto HP HSS
    refine hK.out _ _ hS (fun hHeld => ?_)
    clear hK K
    refine wpAnyH_done (by kernel_rfl) ?_ _
    go_wp2_with fail
    go_end0
    exact ⟨rfl, HT.out⟩
end
end
end Go.Proofs.YtoaponaljkhlfaaGreatDoor
