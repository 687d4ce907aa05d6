/-
  text.First and text.Swap: what the calls come to.
-/
import Derived.Test.YtifdgaklchihbaaDoorWordEnds
import Derived.Test.YtifdgaklchihbaaDoorSwapMath
namespace Go.Proofs.YtifdgaklchihbaaDoor
open Go Go.RowKit

theorem mA_zero (l : List UInt8) : mA l 0 = 0 := by
  have := backL_bound (mS l) 0 (by omega)
  unfold mA
  omega
theorem wrL_le (m : List UInt8) (a : Nat) (h : a ≤ m.length) : wrL m a ≤ m.length := by
  have h1 := thrL_le (cutL (m.drop a))
  rw [cutL_flatten, List.length_drop] at h1
  unfold wrL
  omega
/-- The first word of a line. -/
def firL (l : List UInt8) : List UInt8 := (mS l).take (wrL (mS l) 0)
set_option maxHeartbeats 2000000 in
theorem first_calls (l : List UInt8) (hl : l.length ≤ 137438953472) (w : World) (hsp : Spans w) :
    Calls Tryd.prog 29 #[.string (bs l)] w fun e w' => e = .returned (.string (bs (firL l))) ∧ Below w.heap.size w w' := by
  have HM := Lib.hid (fun W h => make_calls l 0 hl W h)
  have hms := mS_len l
  have HW := Lib.hid (fun W h => wordRight_calls (mS l) 0 (by omega) W h)
  rw [mS_mS, mA_zero] at HW
  rw [mA_zero] at HM
  have hle := wrL_le (mS l) 0 (Nat.zero_le _)
  have hx := bs_take (mS l) (wrL (mS l) 0)
  have hfi : Hid (firL l = (mS l).take (wrL (mS l) 0)) := Lib.hid rfl
  generalize firL l = x at *
  generalize (mS l).take (wrL (mS l) 0) = y at *
  generalize wrL (mS l) 0 = a at *
  generalize mS l = m at *
  have hszm := bs_size m
  have hi0 : (0 : Int) ≤ (a : Int) := by omega
  have hi1 : (a : Int) ≤ (m.length : Int) := by omega
  have Hsp := Lib.hid hsp
  clear hsp
  go_enter Tryd.func29, Tryd.ntmps29
  go_wp2_with fail
  refine (HM.out _ Hsp.out).mono ?_
  rintro e w1 ⟨rfl, hb1⟩
  have b1 := Bx.new w1 25 (.string (bs m)) (.int .i64 0)
  have k1 : Below w.heap.size w (w1.alloc (.cells #[.string (bs m), .int .i64 0] 25)) := hb1.alloc hb1.size _
  have K2 := Lib.hid k1.drew
  have B2 := Lib.hid b1.drew
  clear hb1 b1 k1
  go_wp2_with fail
  refine wp_region_held_drew (S := (fun w' => w'.cell? ⟨w1.heap.size, 0, none⟩ = some (.string (bs m)) ∧ w'.cell? ⟨w1.heap.size, 1, none⟩ = some (.int .i64 0))) (by kernel_rfl) ⟨B2.out.c0, B2.out.c1⟩ (fun hHeld => ?_)
  refine wpAnyH_take (i := 0) (oi := ⟨some 6, _, _, _, _, _⟩) (v := ?_) rfl (by kernel_rfl) (by kernel_rfl) (by kernel_rfl) (fun _ _ _ h => h) (Or.inl ⟨by kernel_rfl, ?hy0⟩) (by assumption) ?_
  case hy0 => (intro w' hSw; (try dsimp only at hSw); go_simp; try with_reducible rfl)
  simp only [Act.put, List.setIfInBounds_toArray, List.set_cons_zero, List.set_cons_succ]
  refine wpAnyH_take (i := 1) (oi := ⟨some 7, _, _, _, _, _⟩) (v := ?_) rfl (by kernel_rfl) (by kernel_rfl) (by kernel_rfl) (fun _ _ _ h => h) (Or.inl ⟨by kernel_rfl, ?hy1⟩) (by assumption) ?_
  case hy1 => (intro w' hSw; (try dsimp only at hSw); go_simp; try with_reducible rfl)
  simp only [Act.put, List.setIfInBounds_toArray, List.set_cons_zero, List.set_cons_succ]
  refine wpAnyH_take (i := 2) (oi := ⟨some 8, _, _, _, _, _⟩) (v := ?_) rfl (by kernel_rfl) (by kernel_rfl) (by kernel_rfl) (fun _ _ _ h => h) (Or.inl ⟨by kernel_rfl, ?hy2⟩) (by assumption) ?_
  case hy2 => (intro w' hSw; (try dsimp only at hSw); go_simp; try with_reducible rfl)
  simp only [Act.put, List.setIfInBounds_toArray, List.set_cons_zero, List.set_cons_succ]
  refine wpAnyH_take (i := 3) (oi := ⟨some 9, _, _, _, _, _⟩) (v := ?_) rfl (by kernel_rfl) (by kernel_rfl) (by kernel_rfl) (fun _ _ _ h => h) (Or.inl ⟨by kernel_rfl, ?hy3⟩) (by assumption) ?_
  case hy3 => (intro w' hSw; (try dsimp only at hSw); go_simp; try with_reducible rfl)
  simp only [Act.put, List.setIfInBounds_toArray, List.set_cons_zero, List.set_cons_succ]
  refine wpAnyH_ready (rs := [4]) (by kernel_rfl) (by simp) ?_
  refine AllReadyH.cons (o := ⟨some 10, _, _, _, _, _⟩) rfl (fun K hK => ?_) AllReadyH.nil
  (rw [if_pos (by kernel_rfl)])
  go_simp
  (refine (HW.out _ (spans_below Hsp.out K2.out)).mono ?_; rintro e w3 ⟨rfl, hb3⟩; have k3 := K2.out.trans (hb3.mono K2.out.size); have b3 := B2.out.below hb3)
  refine hK.out _ _ ⟨b3.c0, b3.c1⟩ (fun hHeld => ?_)
  clear hK K
  refine wpAnyH_take (i := 5) (oi := ⟨some 11, _, _, _, _, _⟩) (v := ?_) rfl (by kernel_rfl) (by kernel_rfl) (by kernel_rfl) (fun _ _ _ h => h) (Or.inl ⟨by kernel_rfl, ?hy5⟩) (by assumption) ?_
  case hy5 => (intro w' hSw; (try dsimp only at hSw); go_simp; try with_reducible rfl)
  simp only [Act.put, List.setIfInBounds_toArray, List.set_cons_zero, List.set_cons_succ]
  refine wpAnyH_take (i := 6) (oi := ⟨some 2, _, _, _, _, _⟩) (v := ?_) rfl (by kernel_rfl) (by kernel_rfl) (by kernel_rfl) (fun _ _ _ h => h) (Or.inl ⟨by kernel_rfl, ?hy6⟩) (by assumption) ?_
  case hy6 => (intro w' hSw; (try dsimp only at hSw); go_simp; try with_reducible rfl)
  simp only [Act.put, List.setIfInBounds_toArray, List.set_cons_zero, List.set_cons_succ]
  refine wpAnyH_done (by kernel_rfl) ?_ _
  have K3 := Lib.hid k3
  clear hHeld k3 b3 hb3
  go_wp2
  go_ret
  exact ⟨by rw [hfi.out]; rfl, K3.out⟩
set_option maxHeartbeats 8000000 in
theorem swap_ez (l : List UInt8) (n : Int) (hl : l.length ≤ 137438953472) (w : World) (hsp : Spans w) (hend : mA l n = (mS l).length) (hz : swMid (mS l) (mA l n) = 0) :
    Calls Tryd.prog 22 #[.agg #[.string (bs l), .int .i64 n]] w fun e w' => e = .returned (.tuple #[.agg #[.string (bs (mS l)), .int .i64 (mA l n : Int)], .bool false]) ∧ Below w.heap.size w w' := by
  have HM := Lib.hid (fun W h => make_calls l n hl W h)
  have ha := mA_le l n
  have hms := mS_len l
  have hrt := make_rt l n
  have HP := Lib.hid (fun W h => prev_calls (mS l) (mA l n : Int) (by omega) W h)
  rw [hrt.make.1, hrt.make.2] at HP
  have hmd : swMid (mS l) (mA l n) = prvL (mS l) (mA l n) := if_pos hend
  rw [← hmd] at HP
  clear hrt
  generalize swMid (mS l) (mA l n) = d at *
  generalize mA l n = a at *
  generalize mS l = m at *
  have hszm := bs_size m
  have hde : ((a : Int) == (m.length : Int)) = true := by rw [beq_iff_eq]; omega
  have hdz : ((d : Int) == 0) = true := by rw [beq_iff_eq]; omega
  have k0 : Below w.heap.size w ((w.alloc (.cells #[.string (bs l), .int .i64 n] 25)).alloc (.cells #[.string ⟨#[]⟩, .int .i64 0] 25)) := ((Below.refl _ w).alloc (Nat.le_refl _) _).alloc (by simp) _
  have b0 := (Bx.new w 25 (.string (bs l)) (.int .i64 n)).alloc (.cells #[.string ⟨#[]⟩, .int .i64 0] 25)
  have r0 := Bx.new (w.alloc (.cells #[.string (bs l), .int .i64 n] 25)) 25 (.string ⟨#[]⟩) (.int .i64 0)
  rw [World.size_alloc] at r0
  have c00 := b0.c0
  have c01 := b0.c1
  have Hsp := Lib.hid hsp
  clear hsp
  clear hmd hend hz
  go_enter Tryd.func22, Tryd.ntmps22
  go_wp2_with fail
  refine (HM.out _ (spans_below Hsp.out k0)).mono ?_
  rintro e w1 ⟨rfl, hb1⟩
  have k1 := k0.trans (hb1.mono k0.size)
  have b1 := b0.below hb1
  have r1 := r0.below hb1
  clear hb1 c00 c01 b0 r0 k0
  have c10 := b1.c0
  have c11 := b1.c1
  have f10 := b1.f0
  have f11 := b1.f1
  have b3 := (b1.set0 (.string (bs m))).set1 (.int .i64 (a : Int))
  have r3 := (r1.other (i := 0) (Nat.succ_ne_self _) (.string (bs m))).other (i := 1) (Nat.succ_ne_self _) (.int .i64 (a : Int))
  have k3 := (k1.setCell (p := ⟨w.heap.size, 0, none⟩) (Nat.le_refl _) (.string (bs m))).setCell (p := ⟨w.heap.size, 1, none⟩) (Nat.le_refl _) (.int .i64 (a : Int))
  have B3 := Lib.hid b3
  have R3 := Lib.hid r3
  have K3 := Lib.hid k3
  clear b3 r3 k3 b1 r1 k1
  go_wp2_with fail
  refine (HP.out _ (spans_below Hsp.out K3.out)).mono ?_
  rintro e w5 ⟨rfl, hb5⟩
  have k5 := K3.out.trans (hb5.mono K3.out.size)
  have b5 := B3.out.below hb5
  have r5 := R3.out.below hb5
  clear hb5 c10 c11 f10 f11
  have c50 := b5.c0
  have c51 := b5.c1
  have R5 := Lib.hid r5
  have K5 := Lib.hid k5
  have B5 := Lib.hid b5
  have r50 := r5.c0
  have r51 := r5.c1
  have q50 := r5.f0
  have q51 := r5.f1
  have b50 := b5.c0
  have b51 := b5.c1
  clear r5 k5 b5
  go_wp2
  refine bodyPost_ret (results_bx2 rfl _ _ (w.heap.size + 1) (.string (bs m)) (.int .i64 (a : Int)) 25 rfl ((R5.out.set0 _).set1 _) Tryd.underlying25 (sizeBuf _)) rfl ?_
  exact ⟨rfl, (K5.out.setCell (p := ⟨w.heap.size + 1, 0, none⟩) (Nat.le_succ _) _).setCell (p := ⟨w.heap.size + 1, 1, none⟩) (Nat.le_succ _) _⟩

set_option maxHeartbeats 8000000 in
theorem swap_nz (l : List UInt8) (n : Int) (hl : l.length ≤ 137438953472) (w : World) (hsp : Spans w) (hend : ¬ mA l n = (mS l).length) (hz : swMid (mS l) (mA l n) = 0) :
    Calls Tryd.prog 22 #[.agg #[.string (bs l), .int .i64 n]] w fun e w' => e = .returned (.tuple #[.agg #[.string (bs (mS l)), .int .i64 (mA l n : Int)], .bool false]) ∧ Below w.heap.size w w' := by
  have HM := Lib.hid (fun W h => make_calls l n hl W h)
  have ha := mA_le l n
  have hms := mS_len l
  have hrt := make_rt l n
  have hmd : swMid (mS l) (mA l n) = mA l n := if_neg hend
  clear hrt
  generalize swMid (mS l) (mA l n) = d at *
  generalize mA l n = a at *
  generalize mS l = m at *
  have hszm := bs_size m
  have hde : ((a : Int) == (m.length : Int)) = false := beq_eq_false_iff_ne.2 (by omega)
  have hdz : ((d : Int) == 0) = true := by rw [beq_iff_eq]; omega
  have k0 : Below w.heap.size w ((w.alloc (.cells #[.string (bs l), .int .i64 n] 25)).alloc (.cells #[.string ⟨#[]⟩, .int .i64 0] 25)) := ((Below.refl _ w).alloc (Nat.le_refl _) _).alloc (by simp) _
  have b0 := (Bx.new w 25 (.string (bs l)) (.int .i64 n)).alloc (.cells #[.string ⟨#[]⟩, .int .i64 0] 25)
  have r0 := Bx.new (w.alloc (.cells #[.string (bs l), .int .i64 n] 25)) 25 (.string ⟨#[]⟩) (.int .i64 0)
  rw [World.size_alloc] at r0
  have c00 := b0.c0
  have c01 := b0.c1
  have Hsp := Lib.hid hsp
  clear hsp
  clear hend hz
  obtain rfl := hmd
  go_enter Tryd.func22, Tryd.ntmps22
  go_wp2_with fail
  refine (HM.out _ (spans_below Hsp.out k0)).mono ?_
  rintro e w1 ⟨rfl, hb1⟩
  have k1 := k0.trans (hb1.mono k0.size)
  have b1 := b0.below hb1
  have r1 := r0.below hb1
  clear hb1 c00 c01 b0 r0 k0
  have c10 := b1.c0
  have c11 := b1.c1
  have f10 := b1.f0
  have f11 := b1.f1
  have b3 := (b1.set0 (.string (bs m))).set1 (.int .i64 (d : Int))
  have r3 := (r1.other (i := 0) (Nat.succ_ne_self _) (.string (bs m))).other (i := 1) (Nat.succ_ne_self _) (.int .i64 (d : Int))
  have k3 := (k1.setCell (p := ⟨w.heap.size, 0, none⟩) (Nat.le_refl _) (.string (bs m))).setCell (p := ⟨w.heap.size, 1, none⟩) (Nat.le_refl _) (.int .i64 (d : Int))
  have b5 := b3
  have r5 := r3
  have k5 := k3
  clear b3 r3 k3 b1 r1 k1
  have R5 := Lib.hid r5
  have K5 := Lib.hid k5
  have B5 := Lib.hid b5
  have r50 := r5.c0
  have r51 := r5.c1
  have q50 := r5.f0
  have q51 := r5.f1
  have b50 := b5.c0
  have b51 := b5.c1
  clear r5 k5 b5
  go_wp2
  refine bodyPost_ret (results_bx2 rfl _ _ (w.heap.size + 1) (.string (bs m)) (.int .i64 (d : Int)) 25 rfl ((R5.out.set0 _).set1 _) Tryd.underlying25 (sizeBuf _)) rfl ?_
  exact ⟨rfl, (K5.out.setCell (p := ⟨w.heap.size + 1, 0, none⟩) (Nat.le_succ _) _).setCell (p := ⟨w.heap.size + 1, 1, none⟩) (Nat.le_succ _) _⟩

set_option maxHeartbeats 8000000 in
theorem swap_e (l : List UInt8) (n : Int) (hl : l.length ≤ 137438953472) (w : World) (hsp : Spans w) (hend : mA l n = (mS l).length) (hz : ¬ swMid (mS l) (mA l n) = 0) :
    Calls Tryd.prog 22 #[.agg #[.string (bs l), .int .i64 n]] w fun e w' => e = .returned (.tuple #[.agg #[.string (bs (swS (mS l) (prvL (mS l) (swMid (mS l) (mA l n))) (swMid (mS l) (mA l n)) (nxtL (mS l) (swMid (mS l) (mA l n))))), .int .i64 (onL (swS (mS l) (prvL (mS l) (swMid (mS l) (mA l n))) (swMid (mS l) (mA l n)) (nxtL (mS l) (swMid (mS l) (mA l n)))) (nxtL (mS l) (swMid (mS l) (mA l n)) : Int) : Int)], .bool true]) ∧ Below w.heap.size w w' := by
  have HM := Lib.hid (fun W h => make_calls l n hl W h)
  have ha := mA_le l n
  have hms := mS_len l
  have hrt := make_rt l n
  have HP := Lib.hid (fun W h => prev_calls (mS l) (mA l n : Int) (by omega) W h)
  rw [hrt.make.1, hrt.make.2] at HP
  have hmd : swMid (mS l) (mA l n) = prvL (mS l) (mA l n) := if_pos hend
  rw [← hmd] at HP
  have hbm := isB_mid hrt.2.2
  have hmr : Rt (mS l) (swMid (mS l) (mA l n)) := ⟨hrt.1, hrt.2.1, hbm⟩
  have hfl := prv_lt hbm
  have htg := nxt_ge hbm
  have htl : nxtL (mS l) (swMid (mS l) (mA l n)) ≤ (mS l).length := onL_le _ _
  have hml := hbm.le
  have HF := Lib.hid (fun W h => prev_calls (mS l) (swMid (mS l) (mA l n) : Int) (by omega) W h)
  rw [hmr.make.1, hmr.make.2] at HF
  have HT := Lib.hid (fun W h => next_callsT (mS l) (swMid (mS l) (mA l n) : Int) (by omega) W h)
  rw [hmr.make.1, hmr.make.2] at HT
  have hsl := swS_length (mS l) _ _ _ hfl htg htl
  have HO := Lib.hid (fun W h => on_calls (swS (mS l) (prvL (mS l) (swMid (mS l) (mA l n))) (swMid (mS l) (mA l n)) (nxtL (mS l) (swMid (mS l) (mA l n)))) (nxtL (mS l) (swMid (mS l) (mA l n)) : Int) (by omega) W h)
  have hx1 := bs_take (mS l) (prvL (mS l) (swMid (mS l) (mA l n)))
  have hx2 : (bs (mS l)).extract (swMid (mS l) (mA l n)) (nxtL (mS l) (swMid (mS l) (mA l n))) = bs (goneS (mS l) (swMid (mS l) (mA l n)) (nxtL (mS l) (swMid (mS l) (mA l n)))) := bs_mid _ _ _
  have hx3 : (bs (mS l)).extract (prvL (mS l) (swMid (mS l) (mA l n))) (swMid (mS l) (mA l n)) = bs (goneS (mS l) (prvL (mS l) (swMid (mS l) (mA l n))) (swMid (mS l) (mA l n))) := bs_mid _ _ _
  have hx4 := bs_drop (mS l) (nxtL (mS l) (swMid (mS l) (mA l n)))
  have hp3 : ∀ W : World, (Op.stringOp .add (bs ((mS l).take (prvL (mS l) (swMid (mS l) (mA l n))) ++ goneS (mS l) (swMid (mS l) (mA l n)) (nxtL (mS l) (swMid (mS l) (mA l n))) ++ goneS (mS l) (prvL (mS l) (swMid (mS l) (mA l n))) (swMid (mS l) (mA l n)))) (bs ((mS l).drop (nxtL (mS l) (swMid (mS l) (mA l n)))))).run Tryd.prog W = .ok (.string (bs (swS (mS l) (prvL (mS l) (swMid (mS l) (mA l n))) (swMid (mS l) (mA l n)) (nxtL (mS l) (swMid (mS l) (mA l n)))))) W :=
    add_bs Tryd.prog _ _ (by have e := hsl; unfold swS at e; rw [List.length_append] at e; omega)
  have hp2 := add_bs Tryd.prog ((mS l).take (prvL (mS l) (swMid (mS l) (mA l n))) ++ goneS (mS l) (swMid (mS l) (mA l n)) (nxtL (mS l) (swMid (mS l) (mA l n)))) (goneS (mS l) (prvL (mS l) (swMid (mS l) (mA l n))) (swMid (mS l) (mA l n))) (by have e := hsl; unfold swS at e; simp only [List.length_append] at e; rw [List.length_append]; omega)
  have hp1 := add_bs Tryd.prog ((mS l).take (prvL (mS l) (swMid (mS l) (mA l n)))) (goneS (mS l) (swMid (mS l) (mA l n)) (nxtL (mS l) (swMid (mS l) (mA l n)))) (by have e := hsl; unfold swS at e; simp only [List.length_append] at e; omega)
  clear hbm hmr
  generalize onL (swS (mS l) (prvL (mS l) (swMid (mS l) (mA l n))) (swMid (mS l) (mA l n)) (nxtL (mS l) (swMid (mS l) (mA l n)))) (nxtL (mS l) (swMid (mS l) (mA l n)) : Int) = x at *
  generalize swS (mS l) (prvL (mS l) (swMid (mS l) (mA l n))) (swMid (mS l) (mA l n)) (nxtL (mS l) (swMid (mS l) (mA l n))) = z at *
  generalize hA3 : (mS l).take (prvL (mS l) (swMid (mS l) (mA l n))) ++ goneS (mS l) (swMid (mS l) (mA l n)) (nxtL (mS l) (swMid (mS l) (mA l n))) ++ goneS (mS l) (prvL (mS l) (swMid (mS l) (mA l n))) (swMid (mS l) (mA l n)) = s3 at *
  generalize hA2 : (mS l).take (prvL (mS l) (swMid (mS l) (mA l n))) ++ goneS (mS l) (swMid (mS l) (mA l n)) (nxtL (mS l) (swMid (mS l) (mA l n))) = s2 at *
  clear hA3 hA2
  generalize (mS l).take (prvL (mS l) (swMid (mS l) (mA l n))) = t1 at *
  generalize goneS (mS l) (swMid (mS l) (mA l n)) (nxtL (mS l) (swMid (mS l) (mA l n))) = t2 at *
  generalize goneS (mS l) (prvL (mS l) (swMid (mS l) (mA l n))) (swMid (mS l) (mA l n)) = t3 at *
  generalize (mS l).drop (nxtL (mS l) (swMid (mS l) (mA l n))) = t4 at *
  generalize prvL (mS l) (swMid (mS l) (mA l n)) = f at *
  generalize nxtL (mS l) (swMid (mS l) (mA l n)) = t at *
  clear hrt
  generalize swMid (mS l) (mA l n) = d at *
  generalize mA l n = a at *
  generalize mS l = m at *
  have hszm := bs_size m
  have hszz := bs_size z
  have hi0 : (0 : Int) ≤ (f : Int) := by omega
  have hi1 : (f : Int) ≤ (d : Int) := by omega
  have hi2 : (0 : Int) ≤ (d : Int) := by omega
  have hi3 : (d : Int) ≤ (t : Int) := by omega
  have hi4 : (0 : Int) ≤ (t : Int) := by omega
  have hi5 : (t : Int) ≤ (m.length : Int) := by omega
  have hi6 : (d : Int) ≤ (m.length : Int) := by omega
  have hi7 : (f : Int) ≤ (m.length : Int) := by omega
  have hde : ((a : Int) == (m.length : Int)) = true := by rw [beq_iff_eq]; omega
  have hdz : ((d : Int) == 0) = false := beq_eq_false_iff_ne.2 (by omega)
  have k0 : Below w.heap.size w ((w.alloc (.cells #[.string (bs l), .int .i64 n] 25)).alloc (.cells #[.string ⟨#[]⟩, .int .i64 0] 25)) := ((Below.refl _ w).alloc (Nat.le_refl _) _).alloc (by simp) _
  have b0 := (Bx.new w 25 (.string (bs l)) (.int .i64 n)).alloc (.cells #[.string ⟨#[]⟩, .int .i64 0] 25)
  have r0 := Bx.new (w.alloc (.cells #[.string (bs l), .int .i64 n] 25)) 25 (.string ⟨#[]⟩) (.int .i64 0)
  rw [World.size_alloc] at r0
  have c00 := b0.c0
  have c01 := b0.c1
  have Hsp := Lib.hid hsp
  clear hsp
  clear hmd hend hz
  go_enter Tryd.func22, Tryd.ntmps22
  go_wp2_with fail
  refine (HM.out _ (spans_below Hsp.out k0)).mono ?_
  rintro e w1 ⟨rfl, hb1⟩
  have k1 := k0.trans (hb1.mono k0.size)
  have b1 := b0.below hb1
  have r1 := r0.below hb1
  clear hb1 c00 c01 b0 r0 k0
  have c10 := b1.c0
  have c11 := b1.c1
  have f10 := b1.f0
  have f11 := b1.f1
  have b3 := (b1.set0 (.string (bs m))).set1 (.int .i64 (a : Int))
  have r3 := (r1.other (i := 0) (Nat.succ_ne_self _) (.string (bs m))).other (i := 1) (Nat.succ_ne_self _) (.int .i64 (a : Int))
  have k3 := (k1.setCell (p := ⟨w.heap.size, 0, none⟩) (Nat.le_refl _) (.string (bs m))).setCell (p := ⟨w.heap.size, 1, none⟩) (Nat.le_refl _) (.int .i64 (a : Int))
  have B3 := Lib.hid b3
  have R3 := Lib.hid r3
  have K3 := Lib.hid k3
  clear b3 r3 k3 b1 r1 k1
  go_wp2_with fail
  refine (HP.out _ (spans_below Hsp.out K3.out)).mono ?_
  rintro e w5 ⟨rfl, hb5⟩
  have k5 := K3.out.trans (hb5.mono K3.out.size)
  have b5 := B3.out.below hb5
  have r5 := R3.out.below hb5
  clear hb5 c10 c11 f10 f11
  have c50 := b5.c0
  have c51 := b5.c1
  have b50 := b5.c0
  have b51 := b5.c1
  go_wp2_with fail
  have K6 := Lib.hid k5.drew
  have B6 := Lib.hid b5.drew
  have R6 := Lib.hid r5.drew
  clear k5 b5 r5 b50 b51
  refine wp_region_held_drew (S := (fun w' => w'.cell? ⟨w.heap.size, 0, none⟩ = some (.string (bs m)) ∧ w'.cell? ⟨w.heap.size, 1, none⟩ = some (.int .i64 (a : Int)))) (by kernel_rfl) ⟨B6.out.c0, B6.out.c1⟩ (fun hHeld => ?_)
  refine wpAnyH_take (i := 0) (oi := ⟨some 27, _, _, _, _, _⟩) (v := ?_) rfl (by kernel_rfl) (by kernel_rfl) (by kernel_rfl) (fun _ _ _ h => h) (Or.inl ⟨by kernel_rfl, ?hy0⟩) (by assumption) ?_
  case hy0 => (intro w' hSw; (try dsimp only at hSw); go_simp; try with_reducible rfl)
  simp only [Act.put, List.setIfInBounds_toArray, List.set_cons_zero, List.set_cons_succ]
  refine wpAnyH_take (i := 1) (oi := ⟨some 28, _, _, _, _, _⟩) (v := ?_) rfl (by kernel_rfl) (by kernel_rfl) (by kernel_rfl) (fun _ _ _ h => h) (Or.inl ⟨by kernel_rfl, ?hy1⟩) (by assumption) ?_
  case hy1 => (intro w' hSw; (try dsimp only at hSw); go_simp; try with_reducible rfl)
  simp only [Act.put, List.setIfInBounds_toArray, List.set_cons_zero, List.set_cons_succ]
  refine wpAnyH_take (i := 2) (oi := ⟨some 29, _, _, _, _, _⟩) (v := ?_) rfl (by kernel_rfl) (by kernel_rfl) (by kernel_rfl) (fun _ _ _ h => h) (Or.inl ⟨by kernel_rfl, ?hy2⟩) (by assumption) ?_
  case hy2 => (intro w' hSw; (try dsimp only at hSw); go_simp; try with_reducible rfl)
  simp only [Act.put, List.setIfInBounds_toArray, List.set_cons_zero, List.set_cons_succ]
  refine wpAnyH_take (i := 4) (oi := ⟨some 31, _, _, _, _, _⟩) (v := ?_) rfl (by kernel_rfl) (by kernel_rfl) (by kernel_rfl) (fun _ _ _ h => h) (Or.inl ⟨by kernel_rfl, ?hy4⟩) (by assumption) ?_
  case hy4 => (intro w' hSw; (try dsimp only at hSw); go_simp; try with_reducible rfl)
  simp only [Act.put, List.setIfInBounds_toArray, List.set_cons_zero, List.set_cons_succ]
  refine wpAnyH_take (i := 5) (oi := ⟨some 32, _, _, _, _, _⟩) (v := ?_) rfl (by kernel_rfl) (by kernel_rfl) (by kernel_rfl) (fun _ _ _ h => h) (Or.inl ⟨by kernel_rfl, ?hy5⟩) (by assumption) ?_
  case hy5 => (intro w' hSw; (try dsimp only at hSw); go_simp; try with_reducible rfl)
  simp only [Act.put, List.setIfInBounds_toArray, List.set_cons_zero, List.set_cons_succ]
  refine wpAnyH_take (i := 6) (oi := ⟨some 33, _, _, _, _, _⟩) (v := ?_) rfl (by kernel_rfl) (by kernel_rfl) (by kernel_rfl) (fun _ _ _ h => h) (Or.inl ⟨by kernel_rfl, ?hy6⟩) (by assumption) ?_
  case hy6 => (intro w' hSw; (try dsimp only at hSw); go_simp; try with_reducible rfl)
  simp only [Act.put, List.setIfInBounds_toArray, List.set_cons_zero, List.set_cons_succ]
  refine wpAnyH_ready (rs := [3]) (by kernel_rfl) (by simp) ?_
  refine AllReadyH.cons (o := ⟨some 30, _, _, _, _, _⟩) rfl (fun K hK => ?_) AllReadyH.nil
  (rw [if_pos (by kernel_rfl)])
  go_simp
  (refine (HF.out _ (spans_below Hsp.out K6.out)).mono ?_; rintro e w7 ⟨rfl, hb7⟩; have k7 := K6.out.trans (hb7.mono K6.out.size); have b7 := B6.out.below hb7; have r7 := R6.out.below hb7)
  refine hK.out _ _ ⟨b7.c0, b7.c1⟩ (fun hHeld => ?_)
  clear hK K
  refine wpAnyH_ready (rs := [7]) (by kernel_rfl) (by simp) ?_
  refine AllReadyH.cons (o := ⟨some 34, _, _, _, _, _⟩) rfl (fun K hK => ?_) AllReadyH.nil
  (rw [if_pos (by kernel_rfl)])
  go_simp
  (refine (HT.out _ (spans_below Hsp.out k7)).mono ?_; rintro e w8 ⟨rfl, hb8⟩; have k8 := k7.trans (hb8.mono k7.size); have b8 := b7.below hb8; have r8 := r7.below hb8)
  refine hK.out _ _ ⟨b8.c0, b8.c1⟩ (fun hHeld => ?_)
  clear hK K
  refine wpAnyH_take (i := 8) (oi := ⟨some 5, _, _, _, _, _⟩) (v := ?_) rfl (by kernel_rfl) (by kernel_rfl) (by kernel_rfl) (fun _ _ _ h => h) (Or.inl ⟨by kernel_rfl, ?hy8⟩) (by assumption) ?_
  case hy8 => (intro w' hSw; (try dsimp only at hSw); go_simp; try with_reducible rfl)
  simp only [Act.put, List.setIfInBounds_toArray, List.set_cons_zero, List.set_cons_succ]
  refine wpAnyH_take (i := 9) (oi := ⟨some 6, _, _, _, _, _⟩) (v := ?_) rfl (by kernel_rfl) (by kernel_rfl) (by kernel_rfl) (fun _ _ _ h => h) (Or.inl ⟨by kernel_rfl, ?hy9⟩) (by assumption) ?_
  case hy9 => (intro w' hSw; (try dsimp only at hSw); go_simp; try with_reducible rfl)
  simp only [Act.put, List.setIfInBounds_toArray, List.set_cons_zero, List.set_cons_succ]
  refine wpAnyH_done (by kernel_rfl) ?_ _
  have K8 := Lib.hid k8
  have R8 := Lib.hid r8
  have B8 := Lib.hid b8
  have b80 := b8.c0
  have b81 := b8.c1
  clear hHeld k7 b7 r7 hb7 hb8 k8 b8 r8
  go_wp2_with fail
  go_quiet (fail)
  go_wp2_with fail
  refine (HO.out _ (spans_below Hsp.out (bel_drewN K8.out _))).mono ?_
  rintro e w9 ⟨rfl, hb9⟩
  have k9 := (bel_drewN K8.out nq).trans (hb9.mono (bel_drewN K8.out nq).size)
  have r9 := (R8.out.drewN nq).below hb9
  have c90 := r9.c0
  have c91 := r9.c1
  have f90 := r9.f0
  have f91 := r9.f1
  have K9 := Lib.hid k9
  have R9 := Lib.hid r9
  clear hb9 r9 k9
  go_wp2
  refine bodyPost_ret (results_bx2 rfl _ _ (w.heap.size + 1) (.string (bs z)) (.int .i64 (x : Int)) 25 rfl ((R9.out.set0 _).set1 _) Tryd.underlying25 (sizeBuf _)) rfl ?_
  exact ⟨rfl, (K9.out.setCell (p := ⟨w.heap.size + 1, 0, none⟩) (Nat.le_succ _) _).setCell (p := ⟨w.heap.size + 1, 1, none⟩) (Nat.le_succ _) _⟩

set_option maxHeartbeats 8000000 in
theorem swap_n (l : List UInt8) (n : Int) (hl : l.length ≤ 137438953472) (w : World) (hsp : Spans w) (hend : ¬ mA l n = (mS l).length) (hz : ¬ swMid (mS l) (mA l n) = 0) :
    Calls Tryd.prog 22 #[.agg #[.string (bs l), .int .i64 n]] w fun e w' => e = .returned (.tuple #[.agg #[.string (bs (swS (mS l) (prvL (mS l) (swMid (mS l) (mA l n))) (swMid (mS l) (mA l n)) (nxtL (mS l) (swMid (mS l) (mA l n))))), .int .i64 (onL (swS (mS l) (prvL (mS l) (swMid (mS l) (mA l n))) (swMid (mS l) (mA l n)) (nxtL (mS l) (swMid (mS l) (mA l n)))) (nxtL (mS l) (swMid (mS l) (mA l n)) : Int) : Int)], .bool true]) ∧ Below w.heap.size w w' := by
  have HM := Lib.hid (fun W h => make_calls l n hl W h)
  have ha := mA_le l n
  have hms := mS_len l
  have hrt := make_rt l n
  have hmd : swMid (mS l) (mA l n) = mA l n := if_neg hend
  have hbm := isB_mid hrt.2.2
  have hmr : Rt (mS l) (swMid (mS l) (mA l n)) := ⟨hrt.1, hrt.2.1, hbm⟩
  have hfl := prv_lt hbm
  have htg := nxt_ge hbm
  have htl : nxtL (mS l) (swMid (mS l) (mA l n)) ≤ (mS l).length := onL_le _ _
  have hml := hbm.le
  have HF := Lib.hid (fun W h => prev_calls (mS l) (swMid (mS l) (mA l n) : Int) (by omega) W h)
  rw [hmr.make.1, hmr.make.2] at HF
  have HT := Lib.hid (fun W h => next_callsT (mS l) (swMid (mS l) (mA l n) : Int) (by omega) W h)
  rw [hmr.make.1, hmr.make.2] at HT
  have hsl := swS_length (mS l) _ _ _ hfl htg htl
  have HO := Lib.hid (fun W h => on_calls (swS (mS l) (prvL (mS l) (swMid (mS l) (mA l n))) (swMid (mS l) (mA l n)) (nxtL (mS l) (swMid (mS l) (mA l n)))) (nxtL (mS l) (swMid (mS l) (mA l n)) : Int) (by omega) W h)
  have hx1 := bs_take (mS l) (prvL (mS l) (swMid (mS l) (mA l n)))
  have hx2 : (bs (mS l)).extract (swMid (mS l) (mA l n)) (nxtL (mS l) (swMid (mS l) (mA l n))) = bs (goneS (mS l) (swMid (mS l) (mA l n)) (nxtL (mS l) (swMid (mS l) (mA l n)))) := bs_mid _ _ _
  have hx3 : (bs (mS l)).extract (prvL (mS l) (swMid (mS l) (mA l n))) (swMid (mS l) (mA l n)) = bs (goneS (mS l) (prvL (mS l) (swMid (mS l) (mA l n))) (swMid (mS l) (mA l n))) := bs_mid _ _ _
  have hx4 := bs_drop (mS l) (nxtL (mS l) (swMid (mS l) (mA l n)))
  have hp3 : ∀ W : World, (Op.stringOp .add (bs ((mS l).take (prvL (mS l) (swMid (mS l) (mA l n))) ++ goneS (mS l) (swMid (mS l) (mA l n)) (nxtL (mS l) (swMid (mS l) (mA l n))) ++ goneS (mS l) (prvL (mS l) (swMid (mS l) (mA l n))) (swMid (mS l) (mA l n)))) (bs ((mS l).drop (nxtL (mS l) (swMid (mS l) (mA l n)))))).run Tryd.prog W = .ok (.string (bs (swS (mS l) (prvL (mS l) (swMid (mS l) (mA l n))) (swMid (mS l) (mA l n)) (nxtL (mS l) (swMid (mS l) (mA l n)))))) W :=
    add_bs Tryd.prog _ _ (by have e := hsl; unfold swS at e; rw [List.length_append] at e; omega)
  have hp2 := add_bs Tryd.prog ((mS l).take (prvL (mS l) (swMid (mS l) (mA l n))) ++ goneS (mS l) (swMid (mS l) (mA l n)) (nxtL (mS l) (swMid (mS l) (mA l n)))) (goneS (mS l) (prvL (mS l) (swMid (mS l) (mA l n))) (swMid (mS l) (mA l n))) (by have e := hsl; unfold swS at e; simp only [List.length_append] at e; rw [List.length_append]; omega)
  have hp1 := add_bs Tryd.prog ((mS l).take (prvL (mS l) (swMid (mS l) (mA l n)))) (goneS (mS l) (swMid (mS l) (mA l n)) (nxtL (mS l) (swMid (mS l) (mA l n)))) (by have e := hsl; unfold swS at e; simp only [List.length_append] at e; omega)
  clear hbm hmr
  generalize onL (swS (mS l) (prvL (mS l) (swMid (mS l) (mA l n))) (swMid (mS l) (mA l n)) (nxtL (mS l) (swMid (mS l) (mA l n)))) (nxtL (mS l) (swMid (mS l) (mA l n)) : Int) = x at *
  generalize swS (mS l) (prvL (mS l) (swMid (mS l) (mA l n))) (swMid (mS l) (mA l n)) (nxtL (mS l) (swMid (mS l) (mA l n))) = z at *
  generalize hA3 : (mS l).take (prvL (mS l) (swMid (mS l) (mA l n))) ++ goneS (mS l) (swMid (mS l) (mA l n)) (nxtL (mS l) (swMid (mS l) (mA l n))) ++ goneS (mS l) (prvL (mS l) (swMid (mS l) (mA l n))) (swMid (mS l) (mA l n)) = s3 at *
  generalize hA2 : (mS l).take (prvL (mS l) (swMid (mS l) (mA l n))) ++ goneS (mS l) (swMid (mS l) (mA l n)) (nxtL (mS l) (swMid (mS l) (mA l n))) = s2 at *
  clear hA3 hA2
  generalize (mS l).take (prvL (mS l) (swMid (mS l) (mA l n))) = t1 at *
  generalize goneS (mS l) (swMid (mS l) (mA l n)) (nxtL (mS l) (swMid (mS l) (mA l n))) = t2 at *
  generalize goneS (mS l) (prvL (mS l) (swMid (mS l) (mA l n))) (swMid (mS l) (mA l n)) = t3 at *
  generalize (mS l).drop (nxtL (mS l) (swMid (mS l) (mA l n))) = t4 at *
  generalize prvL (mS l) (swMid (mS l) (mA l n)) = f at *
  generalize nxtL (mS l) (swMid (mS l) (mA l n)) = t at *
  clear hrt
  generalize swMid (mS l) (mA l n) = d at *
  generalize mA l n = a at *
  generalize mS l = m at *
  have hszm := bs_size m
  have hszz := bs_size z
  have hi0 : (0 : Int) ≤ (f : Int) := by omega
  have hi1 : (f : Int) ≤ (d : Int) := by omega
  have hi2 : (0 : Int) ≤ (d : Int) := by omega
  have hi3 : (d : Int) ≤ (t : Int) := by omega
  have hi4 : (0 : Int) ≤ (t : Int) := by omega
  have hi5 : (t : Int) ≤ (m.length : Int) := by omega
  have hi6 : (d : Int) ≤ (m.length : Int) := by omega
  have hi7 : (f : Int) ≤ (m.length : Int) := by omega
  have hde : ((a : Int) == (m.length : Int)) = false := beq_eq_false_iff_ne.2 (by omega)
  have hdz : ((d : Int) == 0) = false := beq_eq_false_iff_ne.2 (by omega)
  have k0 : Below w.heap.size w ((w.alloc (.cells #[.string (bs l), .int .i64 n] 25)).alloc (.cells #[.string ⟨#[]⟩, .int .i64 0] 25)) := ((Below.refl _ w).alloc (Nat.le_refl _) _).alloc (by simp) _
  have b0 := (Bx.new w 25 (.string (bs l)) (.int .i64 n)).alloc (.cells #[.string ⟨#[]⟩, .int .i64 0] 25)
  have r0 := Bx.new (w.alloc (.cells #[.string (bs l), .int .i64 n] 25)) 25 (.string ⟨#[]⟩) (.int .i64 0)
  rw [World.size_alloc] at r0
  have c00 := b0.c0
  have c01 := b0.c1
  have Hsp := Lib.hid hsp
  clear hsp
  clear hend hz
  obtain rfl := hmd
  go_enter Tryd.func22, Tryd.ntmps22
  go_wp2_with fail
  refine (HM.out _ (spans_below Hsp.out k0)).mono ?_
  rintro e w1 ⟨rfl, hb1⟩
  have k1 := k0.trans (hb1.mono k0.size)
  have b1 := b0.below hb1
  have r1 := r0.below hb1
  clear hb1 c00 c01 b0 r0 k0
  have c10 := b1.c0
  have c11 := b1.c1
  have f10 := b1.f0
  have f11 := b1.f1
  have b3 := (b1.set0 (.string (bs m))).set1 (.int .i64 (d : Int))
  have r3 := (r1.other (i := 0) (Nat.succ_ne_self _) (.string (bs m))).other (i := 1) (Nat.succ_ne_self _) (.int .i64 (d : Int))
  have k3 := (k1.setCell (p := ⟨w.heap.size, 0, none⟩) (Nat.le_refl _) (.string (bs m))).setCell (p := ⟨w.heap.size, 1, none⟩) (Nat.le_refl _) (.int .i64 (d : Int))
  have b5 := b3
  have r5 := r3
  have k5 := k3
  clear b3 r3 k3 b1 r1 k1
  have b50 := b5.c0
  have b51 := b5.c1
  go_wp2_with fail
  have K6 := Lib.hid k5.drew
  have B6 := Lib.hid b5.drew
  have R6 := Lib.hid r5.drew
  clear k5 b5 r5 b50 b51
  refine wp_region_held_drew (S := (fun w' => w'.cell? ⟨w.heap.size, 0, none⟩ = some (.string (bs m)) ∧ w'.cell? ⟨w.heap.size, 1, none⟩ = some (.int .i64 (d : Int)))) (by kernel_rfl) ⟨B6.out.c0, B6.out.c1⟩ (fun hHeld => ?_)
  refine wpAnyH_take (i := 0) (oi := ⟨some 27, _, _, _, _, _⟩) (v := ?_) rfl (by kernel_rfl) (by kernel_rfl) (by kernel_rfl) (fun _ _ _ h => h) (Or.inl ⟨by kernel_rfl, ?hy0⟩) (by assumption) ?_
  case hy0 => (intro w' hSw; (try dsimp only at hSw); go_simp; try with_reducible rfl)
  simp only [Act.put, List.setIfInBounds_toArray, List.set_cons_zero, List.set_cons_succ]
  refine wpAnyH_take (i := 1) (oi := ⟨some 28, _, _, _, _, _⟩) (v := ?_) rfl (by kernel_rfl) (by kernel_rfl) (by kernel_rfl) (fun _ _ _ h => h) (Or.inl ⟨by kernel_rfl, ?hy1⟩) (by assumption) ?_
  case hy1 => (intro w' hSw; (try dsimp only at hSw); go_simp; try with_reducible rfl)
  simp only [Act.put, List.setIfInBounds_toArray, List.set_cons_zero, List.set_cons_succ]
  refine wpAnyH_take (i := 2) (oi := ⟨some 29, _, _, _, _, _⟩) (v := ?_) rfl (by kernel_rfl) (by kernel_rfl) (by kernel_rfl) (fun _ _ _ h => h) (Or.inl ⟨by kernel_rfl, ?hy2⟩) (by assumption) ?_
  case hy2 => (intro w' hSw; (try dsimp only at hSw); go_simp; try with_reducible rfl)
  simp only [Act.put, List.setIfInBounds_toArray, List.set_cons_zero, List.set_cons_succ]
  refine wpAnyH_take (i := 4) (oi := ⟨some 31, _, _, _, _, _⟩) (v := ?_) rfl (by kernel_rfl) (by kernel_rfl) (by kernel_rfl) (fun _ _ _ h => h) (Or.inl ⟨by kernel_rfl, ?hy4⟩) (by assumption) ?_
  case hy4 => (intro w' hSw; (try dsimp only at hSw); go_simp; try with_reducible rfl)
  simp only [Act.put, List.setIfInBounds_toArray, List.set_cons_zero, List.set_cons_succ]
  refine wpAnyH_take (i := 5) (oi := ⟨some 32, _, _, _, _, _⟩) (v := ?_) rfl (by kernel_rfl) (by kernel_rfl) (by kernel_rfl) (fun _ _ _ h => h) (Or.inl ⟨by kernel_rfl, ?hy5⟩) (by assumption) ?_
  case hy5 => (intro w' hSw; (try dsimp only at hSw); go_simp; try with_reducible rfl)
  simp only [Act.put, List.setIfInBounds_toArray, List.set_cons_zero, List.set_cons_succ]
  refine wpAnyH_take (i := 6) (oi := ⟨some 33, _, _, _, _, _⟩) (v := ?_) rfl (by kernel_rfl) (by kernel_rfl) (by kernel_rfl) (fun _ _ _ h => h) (Or.inl ⟨by kernel_rfl, ?hy6⟩) (by assumption) ?_
  case hy6 => (intro w' hSw; (try dsimp only at hSw); go_simp; try with_reducible rfl)
  simp only [Act.put, List.setIfInBounds_toArray, List.set_cons_zero, List.set_cons_succ]
  refine wpAnyH_ready (rs := [3]) (by kernel_rfl) (by simp) ?_
  refine AllReadyH.cons (o := ⟨some 30, _, _, _, _, _⟩) rfl (fun K hK => ?_) AllReadyH.nil
  (rw [if_pos (by kernel_rfl)])
  go_simp
  (refine (HF.out _ (spans_below Hsp.out K6.out)).mono ?_; rintro e w7 ⟨rfl, hb7⟩; have k7 := K6.out.trans (hb7.mono K6.out.size); have b7 := B6.out.below hb7; have r7 := R6.out.below hb7)
  refine hK.out _ _ ⟨b7.c0, b7.c1⟩ (fun hHeld => ?_)
  clear hK K
  refine wpAnyH_ready (rs := [7]) (by kernel_rfl) (by simp) ?_
  refine AllReadyH.cons (o := ⟨some 34, _, _, _, _, _⟩) rfl (fun K hK => ?_) AllReadyH.nil
  (rw [if_pos (by kernel_rfl)])
  go_simp
  (refine (HT.out _ (spans_below Hsp.out k7)).mono ?_; rintro e w8 ⟨rfl, hb8⟩; have k8 := k7.trans (hb8.mono k7.size); have b8 := b7.below hb8; have r8 := r7.below hb8)
  refine hK.out _ _ ⟨b8.c0, b8.c1⟩ (fun hHeld => ?_)
  clear hK K
  refine wpAnyH_take (i := 8) (oi := ⟨some 5, _, _, _, _, _⟩) (v := ?_) rfl (by kernel_rfl) (by kernel_rfl) (by kernel_rfl) (fun _ _ _ h => h) (Or.inl ⟨by kernel_rfl, ?hy8⟩) (by assumption) ?_
  case hy8 => (intro w' hSw; (try dsimp only at hSw); go_simp; try with_reducible rfl)
  simp only [Act.put, List.setIfInBounds_toArray, List.set_cons_zero, List.set_cons_succ]
  refine wpAnyH_take (i := 9) (oi := ⟨some 6, _, _, _, _, _⟩) (v := ?_) rfl (by kernel_rfl) (by kernel_rfl) (by kernel_rfl) (fun _ _ _ h => h) (Or.inl ⟨by kernel_rfl, ?hy9⟩) (by assumption) ?_
  case hy9 => (intro w' hSw; (try dsimp only at hSw); go_simp; try with_reducible rfl)
  simp only [Act.put, List.setIfInBounds_toArray, List.set_cons_zero, List.set_cons_succ]
  refine wpAnyH_done (by kernel_rfl) ?_ _
  have K8 := Lib.hid k8
  have R8 := Lib.hid r8
  have B8 := Lib.hid b8
  have b80 := b8.c0
  have b81 := b8.c1
  clear hHeld k7 b7 r7 hb7 hb8 k8 b8 r8
  go_wp2_with fail
  go_quiet (fail)
  go_wp2_with fail
  refine (HO.out _ (spans_below Hsp.out (bel_drewN K8.out _))).mono ?_
  rintro e w9 ⟨rfl, hb9⟩
  have k9 := (bel_drewN K8.out nq).trans (hb9.mono (bel_drewN K8.out nq).size)
  have r9 := (R8.out.drewN nq).below hb9
  have c90 := r9.c0
  have c91 := r9.c1
  have f90 := r9.f0
  have f91 := r9.f1
  have K9 := Lib.hid k9
  have R9 := Lib.hid r9
  clear hb9 r9 k9
  go_wp2
  refine bodyPost_ret (results_bx2 rfl _ _ (w.heap.size + 1) (.string (bs z)) (.int .i64 (x : Int)) 25 rfl ((R9.out.set0 _).set1 _) Tryd.underlying25 (sizeBuf _)) rfl ?_
  exact ⟨rfl, (K9.out.setCell (p := ⟨w.heap.size + 1, 0, none⟩) (Nat.le_succ _) _).setCell (p := ⟨w.heap.size + 1, 1, none⟩) (Nat.le_succ _) _⟩

theorem swap_calls (l : List UInt8) (n : Int) (hl : l.length ≤ 137438953472) (w : World) (hsp : Spans w) :
    Calls Tryd.prog 22 #[.agg #[.string (bs l), .int .i64 n]] w fun e w' => e = .returned (.tuple #[.agg #[.string (bs (swapR (mS l) (mA l n)).1), .int .i64 ((swapR (mS l) (mA l n)).2.1 : Int)], .bool (swapR (mS l) (mA l n)).2.2]) ∧ Below w.heap.size w w' := by
  unfold swapR
  by_cases hz : swMid (mS l) (mA l n) = 0
  · rw [if_pos hz]
    dsimp only
    by_cases hend : mA l n = (mS l).length
    · exact swap_ez l n hl w hsp hend hz
    · exact swap_nz l n hl w hsp hend hz
  · rw [if_neg hz]
    dsimp only
    by_cases hend : mA l n = (mS l).length
    · exact swap_e l n hl w hsp hend hz
    · exact swap_n l n hl w hsp hend hz
end Go.Proofs.YtifdgaklchihbaaDoor
