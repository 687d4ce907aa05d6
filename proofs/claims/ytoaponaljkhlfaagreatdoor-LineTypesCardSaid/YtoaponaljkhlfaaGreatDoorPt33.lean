/-
  Layer 7 and what it stands on, part 33 (CutT LnE).
-/
import Derived.Test.YtoaponaljkhlfaaGreatDoorPt32
import Derived.Deep.RegionWith
namespace Go.Proofs.YtoaponaljkhlfaaGreatDoor
section
open Go Go.RowKit
/-- What text.Cut answers: the text, the place, what is gone. -/
theorem cutAt_le (a f t : Nat) (ha : a ≤ 600) (hf : f ≤ 600) : cutAt a f t ≤ 600 := by unfold cutAt; split <;> omega
set_option maxHeartbeats 4000000 in
theorem cutT_no (l : List UInt8) (n x y : Int) (hl : l.length ≤ 137438953472) (w : World) (hsp : Spans w) (hft : backL (mS l) y ≤ backL (mS l) x) :
    Calls Tryz.prog 108 #[.agg #[.string (bs l), .int .i64 n], .int .i64 x, .int .i64 y] w fun e w' => e = .returned (.tuple #[.agg #[.string (bs (mS l)), .int .i64 (mA l n : Int)], .string ⟨#[]⟩]) ∧ Below w.heap.size w w' := by
  have HM := Lib.hid (fun W h => make_calls l n hl W h)
  have ha := mA_le l n
  have hms := mS_len l
  have HB1 := Lib.hid (fun W h => back_calls (mS l) x (by omega) W h)
  have HB2 := Lib.hid (fun W h => back_calls (mS l) y (by omega) W h)
  have hf := backL_le (mS l) x
  have ht := backL_le (mS l) y
  generalize backL (mS l) x = f at *
  generalize backL (mS l) y = t at *
  generalize mA l n = a at *
  generalize mS l = m at *
  have k0 : Below w.heap.size w ((w.alloc (.cells #[.string (bs l), .int .i64 n] 43)).alloc (.cells #[.string ⟨#[]⟩, .int .i64 0] 43)) := ((Below.refl _ w).alloc (Nat.le_refl _) _).alloc (by simp) _
  have b0 := (Bx.new w 43 (.string (bs l)) (.int .i64 n)).alloc (.cells #[.string ⟨#[]⟩, .int .i64 0] 43)
  have r0 := Bx.new (w.alloc (.cells #[.string (bs l), .int .i64 n] 43)) 43 (.string ⟨#[]⟩) (.int .i64 0)
  rw [World.size_alloc] at r0
  have c00 := b0.c0
  have c01 := b0.c1
  have Hsp := Lib.hid hsp
  have hd : decide ((t : Int) ≤ (f : Int)) = true := decide_eq_true (by omega)
  clear hsp
  go_enter Tryz.func108, Tryz.ntmps108
  go_wp2_with fail
  refine (HM.out _ (spans_below Hsp.out k0)).mono ?_
  rintro e w1 ⟨rfl, hb1⟩
  have k1 := k0.trans (hb1.mono k0.size)
  have b1 := b0.below hb1
  have r1 := r0.below hb1
  clear hb1 c00 c01 b0 r0 k0
  have c10 := b1.c0
  have c11 := b1.c1
  have f10 := b1.f0
  have f11 := b1.f1
  have b3 := (b1.set0 (.string (bs m))).set1 (.int .i64 (a : Int))
  have r3 := (r1.other (i := 0) (Nat.succ_ne_self _) (.string (bs m))).other (i := 1) (Nat.succ_ne_self _) (.int .i64 (a : Int))
  have k3 := (k1.setCell (p := ⟨w.heap.size, 0, none⟩) (Nat.le_refl _) (.string (bs m))).setCell (p := ⟨w.heap.size, 1, none⟩) (Nat.le_refl _) (.int .i64 (a : Int))
  have c30 := b3.c0
  have c31 := b3.c1
  go_wp2_with fail
  generalize (w1.setCell ⟨w.heap.size, 0, none⟩ (.string (bs m))).setCell ⟨w.heap.size, 1, none⟩ (.int .i64 (a : Int)) = W3 at *
  have K3 := Lib.hid k3.drew
  have B3 := Lib.hid b3.drew
  have R3 := Lib.hid r3.drew
  clear b3 r3 k3 b1 r1 k1 c10 c11 f10 f11
  refine wp_region_held_drew (S := (fun w' => w'.cell? ⟨w.heap.size, 0, none⟩ = some (.string (bs m)) ∧ w'.cell? ⟨w.heap.size, 1, none⟩ = some (.int .i64 (a : Int)))) (by kernel_rfl) ⟨c30, c31⟩ (fun hHeld => ?_)
  refine wpAnyH_take (i := 0) (oi := ⟨some 15, _, _, _, _, _⟩) (v := ?_) rfl (by kernel_rfl) (by kernel_rfl) (by kernel_rfl) (fun _ _ _ h => h) (Or.inl ⟨by kernel_rfl, ?hy0⟩) (by assumption) ?_
  case hy0 => (intro w' hSw; (try dsimp only at hSw); go_simp; try with_reducible rfl)
  simp only [Act.put, List.setIfInBounds_toArray, List.set_cons_zero, List.set_cons_succ]
  refine wpAnyH_take (i := 1) (oi := ⟨some 16, _, _, _, _, _⟩) (v := ?_) rfl (by kernel_rfl) (by kernel_rfl) (by kernel_rfl) (fun _ _ _ h => h) (Or.inl ⟨by kernel_rfl, ?hy1⟩) (by assumption) ?_
  case hy1 => (intro w' hSw; (try dsimp only at hSw); go_simp; try with_reducible rfl)
  simp only [Act.put, List.setIfInBounds_toArray, List.set_cons_zero, List.set_cons_succ]
  refine wpAnyH_take (i := 2) (oi := ⟨some 17, _, _, _, _, _⟩) (v := ?_) rfl (by kernel_rfl) (by kernel_rfl) (by kernel_rfl) (fun _ _ _ h => h) (Or.inl ⟨by kernel_rfl, ?hy2⟩) (by assumption) ?_
  case hy2 => (intro w' hSw; (try dsimp only at hSw); go_simp; try with_reducible rfl)
  simp only [Act.put, List.setIfInBounds_toArray, List.set_cons_zero, List.set_cons_succ]
  refine wpAnyH_take (i := 4) (oi := ⟨some 19, _, _, _, _, _⟩) (v := ?_) rfl (by kernel_rfl) (by kernel_rfl) (by kernel_rfl) (fun _ _ _ h => h) (Or.inl ⟨by kernel_rfl, ?hy4⟩) (by assumption) ?_
  case hy4 => (intro w' hSw; (try dsimp only at hSw); go_simp; try with_reducible rfl)
  simp only [Act.put, List.setIfInBounds_toArray, List.set_cons_zero, List.set_cons_succ]
  refine wpAnyH_take (i := 5) (oi := ⟨some 20, _, _, _, _, _⟩) (v := ?_) rfl (by kernel_rfl) (by kernel_rfl) (by kernel_rfl) (fun _ _ _ h => h) (Or.inl ⟨by kernel_rfl, ?hy5⟩) (by assumption) ?_
  case hy5 => (intro w' hSw; (try dsimp only at hSw); go_simp; try with_reducible rfl)
  simp only [Act.put, List.setIfInBounds_toArray, List.set_cons_zero, List.set_cons_succ]
  refine wpAnyH_take (i := 6) (oi := ⟨some 21, _, _, _, _, _⟩) (v := ?_) rfl (by kernel_rfl) (by kernel_rfl) (by kernel_rfl) (fun _ _ _ h => h) (Or.inl ⟨by kernel_rfl, ?hy6⟩) (by assumption) ?_
  case hy6 => (intro w' hSw; (try dsimp only at hSw); go_simp; try with_reducible rfl)
  simp only [Act.put, List.setIfInBounds_toArray, List.set_cons_zero, List.set_cons_succ]
  refine wpAnyH_ready (rs := [3]) (by kernel_rfl) (by simp) ?_
  refine AllReadyH.cons (o := ⟨some 18, _, _, _, _, _⟩) rfl (fun K hK => ?_) AllReadyH.nil
  (rw [if_pos (by kernel_rfl)])
  go_simp
  (refine (HB1.out _ (spans_below Hsp.out K3.out)).mono ?_; rintro e w4 ⟨rfl, hb4⟩; have k4 := K3.out.trans (hb4.mono K3.out.size); have b4 := B3.out.below hb4; have r4 := R3.out.below hb4; have c40 := b4.c0; have c41 := b4.c1)
  refine hK.out _ _ ⟨c40, c41⟩ (fun hHeld => ?_)
  clear hK K
  refine wpAnyH_ready (rs := [7]) (by kernel_rfl) (by simp) ?_
  refine AllReadyH.cons (o := ⟨some 22, _, _, _, _, _⟩) rfl (fun K hK => ?_) AllReadyH.nil
  (rw [if_pos (by kernel_rfl)])
  go_simp
  (refine (HB2.out _ (spans_below Hsp.out k4)).mono ?_; rintro e w5 ⟨rfl, hb5⟩; have k5 := k4.trans (hb5.mono k4.size); have b5 := b4.below hb5; have r5 := r4.below hb5; have c50 := b5.c0; have c51 := b5.c1)
  refine hK.out _ _ ⟨c50, c51⟩ (fun hHeld => ?_)
  clear hK K
  refine wpAnyH_take (i := 8) (oi := ⟨some 1, _, _, _, _, _⟩) (v := ?_) rfl (by kernel_rfl) (by kernel_rfl) (by kernel_rfl) (fun _ _ _ h => h) (Or.inl ⟨by kernel_rfl, ?hy8⟩) (by assumption) ?_
  case hy8 => (intro w' hSw; (try dsimp only at hSw); go_simp; try with_reducible rfl)
  simp only [Act.put, List.setIfInBounds_toArray, List.set_cons_zero, List.set_cons_succ]
  refine wpAnyH_take (i := 9) (oi := ⟨some 2, _, _, _, _, _⟩) (v := ?_) rfl (by kernel_rfl) (by kernel_rfl) (by kernel_rfl) (fun _ _ _ h => h) (Or.inl ⟨by kernel_rfl, ?hy9⟩) (by assumption) ?_
  case hy9 => (intro w' hSw; (try dsimp only at hSw); go_simp; try with_reducible rfl)
  simp only [Act.put, List.setIfInBounds_toArray, List.set_cons_zero, List.set_cons_succ]
  refine wpAnyH_done (by kernel_rfl) ?_ _
  have K5 := Lib.hid k5
  have R5 := Lib.hid r5
  have r50 := r5.c0
  have r51 := r5.c1
  have q50 := r5.f0
  have q51 := r5.f1
  clear hHeld k4 b4 r4 c40 c41 hb4 hb5 k5 b5 r5 c30 c31
  go_wp2
  refine bodyPost_ret (results_bx2 rfl _ _ (w.heap.size + 1) (.string (bs m)) (.int .i64 (a : Int)) 43 rfl ((R5.out.set0 _).set1 _) Tryz.underlying43 (sizeBuf _)) rfl ?_
  exact ⟨rfl, (K5.out.setCell (p := ⟨w.heap.size + 1, 0, none⟩) (Nat.le_succ _) _).setCell (p := ⟨w.heap.size + 1, 1, none⟩) (Nat.le_succ _) _⟩
set_option maxHeartbeats 4000000 in
theorem cutT_ok (l : List UInt8) (n x y : Int) (hl : l.length ≤ 137438953472) (w : World) (hsp : Spans w) (hft : backL (mS l) x < backL (mS l) y) :
    Calls Tryz.prog 108 #[.agg #[.string (bs l), .int .i64 n], .int .i64 x, .int .i64 y] w fun e w' => e = .returned (.tuple #[.agg #[.string (bs (cutS (mS l) (backL (mS l) x) (backL (mS l) y))), .int .i64 (cutA (mS l) (mA l n) (backL (mS l) x) (backL (mS l) y) : Int)], .string (bs (goneS (mS l) (backL (mS l) x) (backL (mS l) y)))]) ∧ Below w.heap.size w w' := by
  have HM := Lib.hid (fun W h => make_calls l n hl W h)
  have ha := mA_le l n
  have hms := mS_len l
  have HB1 := Lib.hid (fun W h => back_calls (mS l) x (by omega) W h)
  have HB2 := Lib.hid (fun W h => back_calls (mS l) y (by omega) W h)
  have hf := backL_le (mS l) x
  have ht := backL_le (mS l) y
  generalize backL (mS l) x = f at *
  generalize backL (mS l) y = t at *
  generalize mA l n = a at *
  generalize mS l = m at *
  have hcl := cutS_length m f t (by omega) ht
  have hca := cutAt_le a f t (by omega) (by omega)
  have HB3 := Lib.hid (fun W h => back_calls (cutS m f t) ((cutAt a f t : Nat) : Int) (by omega) W h)
  have HcA : Hid (backL (cutS m f t) ((cutAt a f t : Nat) : Int) = cutA m a f t) := Lib.hid rfl
  rw [HcA.out] at HB3
  have hx1 := bs_take m f
  have hx2 := bs_drop m t
  have hx3 : (bs m).extract f t = bs (goneS m f t) := bs_mid m f t
  have hp1 : ∀ W : World, (Op.stringOp .add (bs (m.take f)) (bs (m.drop t))).run Tryz.prog W = .ok (.string (bs (cutS m f t))) W :=
    add_bs Tryz.prog (m.take f) (m.drop t) (by have := take_len_le m f; have := drop_len_le m t; omega)
  have HAt : Hid (cutAt a f t = if f < a then max f (a - (t - f)) else a) := Lib.hid rfl
  clear HcA
  generalize cutA m a f t = ca at *
  generalize cutS m f t = cS at *
  generalize goneS m f t = gS at *
  generalize m.take f = t1 at *
  generalize m.drop t = t2 at *
  generalize cutAt a f t = at' at *
  have hszm := bs_size m
  have hszc := bs_size cS
  have hi0 : (0 : Int) ≤ (f : Int) := by omega
  have hi1 : (f : Int) ≤ (m.length : Int) := by omega
  have hi2 : (0 : Int) ≤ (t : Int) := by omega
  have hi3 : (t : Int) ≤ (m.length : Int) := by omega
  have hi4 : (f : Int) ≤ (t : Int) := by omega
  have k0 : Below w.heap.size w ((w.alloc (.cells #[.string (bs l), .int .i64 n] 43)).alloc (.cells #[.string ⟨#[]⟩, .int .i64 0] 43)) := ((Below.refl _ w).alloc (Nat.le_refl _) _).alloc (by simp) _
  have b0 := (Bx.new w 43 (.string (bs l)) (.int .i64 n)).alloc (.cells #[.string ⟨#[]⟩, .int .i64 0] 43)
  have r0 := Bx.new (w.alloc (.cells #[.string (bs l), .int .i64 n] 43)) 43 (.string ⟨#[]⟩) (.int .i64 0)
  rw [World.size_alloc] at r0
  have c00 := b0.c0
  have c01 := b0.c1
  have Hsp := Lib.hid hsp
  have hd : decide ((t : Int) ≤ (f : Int)) = false := decide_eq_false (by omega)
  clear hsp
  go_enter Tryz.func108, Tryz.ntmps108
  go_wp2_with fail
  refine (HM.out _ (spans_below Hsp.out k0)).mono ?_
  rintro e w1 ⟨rfl, hb1⟩
  have k1 := k0.trans (hb1.mono k0.size)
  have b1 := b0.below hb1
  have r1 := r0.below hb1
  clear hb1 c00 c01 b0 r0 k0
  have c10 := b1.c0
  have c11 := b1.c1
  have f10 := b1.f0
  have f11 := b1.f1
  have b3 := (b1.set0 (.string (bs m))).set1 (.int .i64 (a : Int))
  have r3 := (r1.other (i := 0) (Nat.succ_ne_self _) (.string (bs m))).other (i := 1) (Nat.succ_ne_self _) (.int .i64 (a : Int))
  have k3 := (k1.setCell (p := ⟨w.heap.size, 0, none⟩) (Nat.le_refl _) (.string (bs m))).setCell (p := ⟨w.heap.size, 1, none⟩) (Nat.le_refl _) (.int .i64 (a : Int))
  have c30 := b3.c0
  have c31 := b3.c1
  go_wp2_with fail
  generalize (w1.setCell ⟨w.heap.size, 0, none⟩ (.string (bs m))).setCell ⟨w.heap.size, 1, none⟩ (.int .i64 (a : Int)) = W3 at *
  have K3 := Lib.hid k3.drew
  have B3 := Lib.hid b3.drew
  have R3 := Lib.hid r3.drew
  clear b3 r3 k3 b1 r1 k1 c10 c11 f10 f11
  refine wp_region_held_drew (S := (fun w' => w'.cell? ⟨w.heap.size, 0, none⟩ = some (.string (bs m)) ∧ w'.cell? ⟨w.heap.size, 1, none⟩ = some (.int .i64 (a : Int)))) (by kernel_rfl) ⟨c30, c31⟩ (fun hHeld => ?_)
  refine wpAnyH_take (i := 0) (oi := ⟨some 15, _, _, _, _, _⟩) (v := ?_) rfl (by kernel_rfl) (by kernel_rfl) (by kernel_rfl) (fun _ _ _ h => h) (Or.inl ⟨by kernel_rfl, ?hy0⟩) (by assumption) ?_
  case hy0 => (intro w' hSw; (try dsimp only at hSw); go_simp; try with_reducible rfl)
  simp only [Act.put, List.setIfInBounds_toArray, List.set_cons_zero, List.set_cons_succ]
  refine wpAnyH_take (i := 1) (oi := ⟨some 16, _, _, _, _, _⟩) (v := ?_) rfl (by kernel_rfl) (by kernel_rfl) (by kernel_rfl) (fun _ _ _ h => h) (Or.inl ⟨by kernel_rfl, ?hy1⟩) (by assumption) ?_
  case hy1 => (intro w' hSw; (try dsimp only at hSw); go_simp; try with_reducible rfl)
  simp only [Act.put, List.setIfInBounds_toArray, List.set_cons_zero, List.set_cons_succ]
  refine wpAnyH_take (i := 2) (oi := ⟨some 17, _, _, _, _, _⟩) (v := ?_) rfl (by kernel_rfl) (by kernel_rfl) (by kernel_rfl) (fun _ _ _ h => h) (Or.inl ⟨by kernel_rfl, ?hy2⟩) (by assumption) ?_
  case hy2 => (intro w' hSw; (try dsimp only at hSw); go_simp; try with_reducible rfl)
  simp only [Act.put, List.setIfInBounds_toArray, List.set_cons_zero, List.set_cons_succ]
  refine wpAnyH_take (i := 4) (oi := ⟨some 19, _, _, _, _, _⟩) (v := ?_) rfl (by kernel_rfl) (by kernel_rfl) (by kernel_rfl) (fun _ _ _ h => h) (Or.inl ⟨by kernel_rfl, ?hy4⟩) (by assumption) ?_
  case hy4 => (intro w' hSw; (try dsimp only at hSw); go_simp; try with_reducible rfl)
  simp only [Act.put, List.setIfInBounds_toArray, List.set_cons_zero, List.set_cons_succ]
  refine wpAnyH_take (i := 5) (oi := ⟨some 20, _, _, _, _, _⟩) (v := ?_) rfl (by kernel_rfl) (by kernel_rfl) (by kernel_rfl) (fun _ _ _ h => h) (Or.inl ⟨by kernel_rfl, ?hy5⟩) (by assumption) ?_
  case hy5 => (intro w' hSw; (try dsimp only at hSw); go_simp; try with_reducible rfl)
  simp only [Act.put, List.setIfInBounds_toArray, List.set_cons_zero, List.set_cons_succ]
  refine wpAnyH_take (i := 6) (oi := ⟨some 21, _, _, _, _, _⟩) (v := ?_) rfl (by kernel_rfl) (by kernel_rfl) (by kernel_rfl) (fun _ _ _ h => h) (Or.inl ⟨by kernel_rfl, ?hy6⟩) (by assumption) ?_
  case hy6 => (intro w' hSw; (try dsimp only at hSw); go_simp; try with_reducible rfl)
  simp only [Act.put, List.setIfInBounds_toArray, List.set_cons_zero, List.set_cons_succ]
  refine wpAnyH_ready (rs := [3]) (by kernel_rfl) (by simp) ?_
  refine AllReadyH.cons (o := ⟨some 18, _, _, _, _, _⟩) rfl (fun K hK => ?_) AllReadyH.nil
  (rw [if_pos (by kernel_rfl)])
  go_simp
  (refine (HB1.out _ (spans_below Hsp.out K3.out)).mono ?_; rintro e w4 ⟨rfl, hb4⟩; have k4 := K3.out.trans (hb4.mono K3.out.size); have b4 := B3.out.below hb4; have r4 := R3.out.below hb4; have c40 := b4.c0; have c41 := b4.c1)
  refine hK.out _ _ ⟨c40, c41⟩ (fun hHeld => ?_)
  clear hK K
  refine wpAnyH_ready (rs := [7]) (by kernel_rfl) (by simp) ?_
  refine AllReadyH.cons (o := ⟨some 22, _, _, _, _, _⟩) rfl (fun K hK => ?_) AllReadyH.nil
  (rw [if_pos (by kernel_rfl)])
  go_simp
  (refine (HB2.out _ (spans_below Hsp.out k4)).mono ?_; rintro e w5 ⟨rfl, hb5⟩; have k5 := k4.trans (hb5.mono k4.size); have b5 := b4.below hb5; have r5 := r4.below hb5; have c50 := b5.c0; have c51 := b5.c1)
  refine hK.out _ _ ⟨c50, c51⟩ (fun hHeld => ?_)
  clear hK K
  refine wpAnyH_take (i := 8) (oi := ⟨some 1, _, _, _, _, _⟩) (v := ?_) rfl (by kernel_rfl) (by kernel_rfl) (by kernel_rfl) (fun _ _ _ h => h) (Or.inl ⟨by kernel_rfl, ?hy8⟩) (by assumption) ?_
  case hy8 => (intro w' hSw; (try dsimp only at hSw); go_simp; try with_reducible rfl)
  simp only [Act.put, List.setIfInBounds_toArray, List.set_cons_zero, List.set_cons_succ]
  refine wpAnyH_take (i := 9) (oi := ⟨some 2, _, _, _, _, _⟩) (v := ?_) rfl (by kernel_rfl) (by kernel_rfl) (by kernel_rfl) (fun _ _ _ h => h) (Or.inl ⟨by kernel_rfl, ?hy9⟩) (by assumption) ?_
  case hy9 => (intro w' hSw; (try dsimp only at hSw); go_simp; try with_reducible rfl)
  simp only [Act.put, List.setIfInBounds_toArray, List.set_cons_zero, List.set_cons_succ]
  refine wpAnyH_done (by kernel_rfl) ?_ _
  have K5 := Lib.hid k5
  have R5 := Lib.hid r5
  have B5 := Lib.hid b5
  clear hHeld k4 b4 r4 c40 c41 hb4 hb5 k5 b5 r5 c30 c31
  go_wp2_with fail
  go_quiet (fail)
  have K6a := Lib.hid (bel_drewN K5.out nq)
  have B6a := Lib.hid (B5.out.drewN nq)
  have R6a := Lib.hid (R5.out.drewN nq)
  clear K5 B5 R5
  by_cases hfa : f < a
  · have hdf : decide ((f : Int) < (a : Int)) = true := decide_eq_true (by omega)
    have hw1 : IntKind.i64.wrap ((t : Int) - (f : Int)) = (t : Int) - (f : Int) := IntWalk.i64_in _ (by omega)
    have hw2 : IntKind.i64.wrap ((a : Int) - ((t : Int) - (f : Int))) = (a : Int) - ((t : Int) - (f : Int)) := IntWalk.i64_in _ (by omega)
    have hmx : max (f : Int) ((a : Int) - ((t : Int) - (f : Int))) = (at' : Int) := by rw [HAt.out, if_pos hfa]; omega
    go_wp2_with fail
    generalize w5.drewN nq = W6 at *
    have K6 := Lib.hid (K6a.out.drew)
    have B6 := Lib.hid (B6a.out.drew)
    have R6 := Lib.hid (R6a.out.drew)
    refine wp_region_held_drew (S := (fun w' => w'.cell? ⟨w.heap.size, 0, none⟩ = some (.string (bs m)) ∧ w'.cell? ⟨w.heap.size, 1, none⟩ = some (.int .i64 (a : Int)))) (by kernel_rfl) ⟨B6.out.c0, B6.out.c1⟩ (fun hHeld => ?_)
    refine wpAnyH_take (i := 0) (oi := ⟨some 48, _, _, _, _, _⟩) (v := ?_) rfl (by kernel_rfl) (by kernel_rfl) (by kernel_rfl) (fun _ _ _ h => h) (Or.inl ⟨by kernel_rfl, ?hy0⟩) (by assumption) ?_
    case hy0 => (intro w' hSw; (try dsimp only at hSw); go_simp; try with_reducible rfl)
    simp only [Act.put, List.setIfInBounds_toArray, List.set_cons_zero, List.set_cons_succ]
    refine wpAnyH_take (i := 1) (oi := ⟨some 49, _, _, _, _, _⟩) (v := ?_) rfl (by kernel_rfl) (by kernel_rfl) (by kernel_rfl) (fun _ _ _ h => h) (Or.inl ⟨by kernel_rfl, ?hy1⟩) (by assumption) ?_
    case hy1 => (intro w' hSw; (try dsimp only at hSw); go_simp; try with_reducible rfl)
    simp only [Act.put, List.setIfInBounds_toArray, List.set_cons_zero, List.set_cons_succ]
    refine wpAnyH_take (i := 2) (oi := ⟨some 50, _, _, _, _, _⟩) (v := ?_) rfl (by kernel_rfl) (by kernel_rfl) (by kernel_rfl) (fun _ _ _ h => h) (Or.inl ⟨by kernel_rfl, ?hy2⟩) (by assumption) ?_
    case hy2 => (intro w' hSw; (try dsimp only at hSw); go_simp; try with_reducible rfl)
    simp only [Act.put, List.setIfInBounds_toArray, List.set_cons_zero, List.set_cons_succ]
    refine wpAnyH_take (i := 5) (oi := ⟨some 53, _, _, _, _, _⟩) (v := ?_) rfl (by kernel_rfl) (by kernel_rfl) (by kernel_rfl) (fun _ _ _ h => h) (Or.inl ⟨by kernel_rfl, ?hy5⟩) (by assumption) ?_
    case hy5 => (intro w' hSw; (try dsimp only at hSw); go_simp; try with_reducible rfl)
    simp only [Act.put, List.setIfInBounds_toArray, List.set_cons_zero, List.set_cons_succ]
    refine wpAnyH_take (i := 6) (oi := ⟨some 54, _, _, _, _, _⟩) (v := ?_) rfl (by kernel_rfl) (by kernel_rfl) (by kernel_rfl) (fun _ _ _ h => h) (Or.inl ⟨by kernel_rfl, ?hy6⟩) (by assumption) ?_
    case hy6 => (intro w' hSw; (try dsimp only at hSw); go_simp; try with_reducible rfl)
    simp only [Act.put, List.setIfInBounds_toArray, List.set_cons_zero, List.set_cons_succ]
    refine wpAnyH_take (i := 7) (oi := ⟨some 55, _, _, _, _, _⟩) (v := ?_) rfl (by kernel_rfl) (by kernel_rfl) (by kernel_rfl) (fun _ _ _ h => h) (Or.inl ⟨by kernel_rfl, ?hy7⟩) (by assumption) ?_
    case hy7 => (intro w' hSw; (try dsimp only at hSw); go_simp; try with_reducible rfl)
    simp only [Act.put, List.setIfInBounds_toArray, List.set_cons_zero, List.set_cons_succ]
    refine wpAnyH_take (i := 8) (oi := ⟨some 56, _, _, _, _, _⟩) (v := ?_) rfl (by kernel_rfl) (by kernel_rfl) (by kernel_rfl) (fun _ _ _ h => h) (Or.inl ⟨by kernel_rfl, ?hy8⟩) (by assumption) ?_
    case hy8 => (intro w' hSw; (try dsimp only at hSw); go_simp; try with_reducible rfl)
    simp only [Act.put, List.setIfInBounds_toArray, List.set_cons_zero, List.set_cons_succ]
    refine wpAnyH_take (i := 9) (oi := ⟨some 57, _, _, _, _, _⟩) (v := ?_) rfl (by kernel_rfl) (by kernel_rfl) (by kernel_rfl) (fun _ _ _ h => h) (Or.inl ⟨by kernel_rfl, ?hy9⟩) (by assumption) ?_
    case hy9 => (intro w' hSw; (try dsimp only at hSw); go_simp; try with_reducible rfl)
    simp only [Act.put, List.setIfInBounds_toArray, List.set_cons_zero, List.set_cons_succ]
    refine wpAnyH_ready (rs := [3]) (by kernel_rfl) (by simp) ?_
    refine AllReadyH.cons (o := ⟨some 51, _, _, _, _, _⟩) rfl (fun K hK => ?_) AllReadyH.nil
    (rw [if_pos (by kernel_rfl)])
    go_simp
    (refine (HB3.out _ (spans_below Hsp.out K6.out)).mono ?_; rintro e w7 ⟨rfl, hb7⟩; have k7 := K6.out.trans (hb7.mono K6.out.size); have b7 := B6.out.below hb7; have r7 := R6.out.below hb7; have r70 := r7.c0; have r71 := r7.c1; have q70 := r7.f0; have q71 := r7.f1)
    refine hK.out _ _ ⟨b7.c0, b7.c1⟩ (fun hHeld => ?_)
    clear hK K
    refine wpAnyH_take (i := 4) (oi := ⟨some 52, _, _, _, _, _⟩) (v := ?_) rfl (by kernel_rfl) (by kernel_rfl) (by kernel_rfl) (fun _ _ _ h => h) (Or.inl ⟨by kernel_rfl, ?hy4⟩) (by assumption) ?_
    case hy4 => (intro w' hSw; (try dsimp only at hSw); go_simp; try with_reducible rfl)
    simp only [Act.put, List.setIfInBounds_toArray, List.set_cons_zero, List.set_cons_succ]
    refine wpAnyH_ready (rs := [10]) (by kernel_rfl) (by simp) ?_
    refine AllReadyH.cons (o := ⟨none, _, _, _, _, _⟩) rfl (fun K hK => ?_) AllReadyH.nil
    (rw [if_pos (by kernel_rfl)])
    go_simp
    refine hK.out _ _ ⟨((b7.other (i := 0) (Nat.ne_of_lt (Nat.lt_succ_self _)) _).other (i := 1) (Nat.ne_of_lt (Nat.lt_succ_self _)) _).c0, ((b7.other (i := 0) (Nat.ne_of_lt (Nat.lt_succ_self _)) _).other (i := 1) (Nat.ne_of_lt (Nat.lt_succ_self _)) _).c1⟩ (fun hHeld => ?_)
    clear hK K
    refine wpAnyH_take (i := 11) (oi := ⟨some 7, _, _, _, _, _⟩) (v := ?_) rfl (by kernel_rfl) (by kernel_rfl) (by kernel_rfl) (fun _ _ _ h => h) (Or.inl ⟨by kernel_rfl, ?hy11⟩) (by assumption) ?_
    case hy11 => (intro w' hSw; (try dsimp only at hSw); go_simp; try with_reducible rfl)
    simp only [Act.put, List.setIfInBounds_toArray, List.set_cons_zero, List.set_cons_succ]
    refine wpAnyH_done (by kernel_rfl) ?_ _
    have K7 := Lib.hid k7
    have R7 := Lib.hid r7
    go_wp2
    refine bodyPost_ret (results_bx2 rfl _ _ (w.heap.size + 1) (.string (bs cS)) (.int .i64 (ca : Int)) 43 rfl ((R7.out.set0 _).set1 _) Tryz.underlying43 (sizeBuf _)) rfl ?_
    exact ⟨rfl, (K7.out.setCell (p := ⟨w.heap.size + 1, 0, none⟩) (Nat.le_succ _) _).setCell (p := ⟨w.heap.size + 1, 1, none⟩) (Nat.le_succ _) _⟩
  · have hdf : decide ((f : Int) < (a : Int)) = false := decide_eq_false (by omega)
    obtain rfl : a = at' := by rw [HAt.out, if_neg hfa]
    go_wp2_with fail
    generalize w5.drewN nq = W6 at *
    have K6 := Lib.hid (K6a.out.drew)
    have B6 := Lib.hid (B6a.out.drew)
    have R6 := Lib.hid (R6a.out.drew)
    refine wp_region_held_drew (S := (fun w' => w'.cell? ⟨w.heap.size, 0, none⟩ = some (.string (bs m)) ∧ w'.cell? ⟨w.heap.size, 1, none⟩ = some (.int .i64 (a : Int)))) (by kernel_rfl) ⟨B6.out.c0, B6.out.c1⟩ (fun hHeld => ?_)
    refine wpAnyH_take (i := 0) (oi := ⟨some 48, _, _, _, _, _⟩) (v := ?_) rfl (by kernel_rfl) (by kernel_rfl) (by kernel_rfl) (fun _ _ _ h => h) (Or.inl ⟨by kernel_rfl, ?hy0⟩) (by assumption) ?_
    case hy0 => (intro w' hSw; (try dsimp only at hSw); go_simp; try with_reducible rfl)
    simp only [Act.put, List.setIfInBounds_toArray, List.set_cons_zero, List.set_cons_succ]
    refine wpAnyH_take (i := 1) (oi := ⟨some 49, _, _, _, _, _⟩) (v := ?_) rfl (by kernel_rfl) (by kernel_rfl) (by kernel_rfl) (fun _ _ _ h => h) (Or.inl ⟨by kernel_rfl, ?hy1⟩) (by assumption) ?_
    case hy1 => (intro w' hSw; (try dsimp only at hSw); go_simp; try with_reducible rfl)
    simp only [Act.put, List.setIfInBounds_toArray, List.set_cons_zero, List.set_cons_succ]
    refine wpAnyH_take (i := 2) (oi := ⟨some 50, _, _, _, _, _⟩) (v := ?_) rfl (by kernel_rfl) (by kernel_rfl) (by kernel_rfl) (fun _ _ _ h => h) (Or.inl ⟨by kernel_rfl, ?hy2⟩) (by assumption) ?_
    case hy2 => (intro w' hSw; (try dsimp only at hSw); go_simp; try with_reducible rfl)
    simp only [Act.put, List.setIfInBounds_toArray, List.set_cons_zero, List.set_cons_succ]
    refine wpAnyH_take (i := 5) (oi := ⟨some 53, _, _, _, _, _⟩) (v := ?_) rfl (by kernel_rfl) (by kernel_rfl) (by kernel_rfl) (fun _ _ _ h => h) (Or.inl ⟨by kernel_rfl, ?hy5⟩) (by assumption) ?_
    case hy5 => (intro w' hSw; (try dsimp only at hSw); go_simp; try with_reducible rfl)
    simp only [Act.put, List.setIfInBounds_toArray, List.set_cons_zero, List.set_cons_succ]
    refine wpAnyH_take (i := 6) (oi := ⟨some 54, _, _, _, _, _⟩) (v := ?_) rfl (by kernel_rfl) (by kernel_rfl) (by kernel_rfl) (fun _ _ _ h => h) (Or.inl ⟨by kernel_rfl, ?hy6⟩) (by assumption) ?_
    case hy6 => (intro w' hSw; (try dsimp only at hSw); go_simp; try with_reducible rfl)
    simp only [Act.put, List.setIfInBounds_toArray, List.set_cons_zero, List.set_cons_succ]
    refine wpAnyH_take (i := 7) (oi := ⟨some 55, _, _, _, _, _⟩) (v := ?_) rfl (by kernel_rfl) (by kernel_rfl) (by kernel_rfl) (fun _ _ _ h => h) (Or.inl ⟨by kernel_rfl, ?hy7⟩) (by assumption) ?_
    case hy7 => (intro w' hSw; (try dsimp only at hSw); go_simp; try with_reducible rfl)
    simp only [Act.put, List.setIfInBounds_toArray, List.set_cons_zero, List.set_cons_succ]
    refine wpAnyH_take (i := 8) (oi := ⟨some 56, _, _, _, _, _⟩) (v := ?_) rfl (by kernel_rfl) (by kernel_rfl) (by kernel_rfl) (fun _ _ _ h => h) (Or.inl ⟨by kernel_rfl, ?hy8⟩) (by assumption) ?_
    case hy8 => (intro w' hSw; (try dsimp only at hSw); go_simp; try with_reducible rfl)
    simp only [Act.put, List.setIfInBounds_toArray, List.set_cons_zero, List.set_cons_succ]
    refine wpAnyH_take (i := 9) (oi := ⟨some 57, _, _, _, _, _⟩) (v := ?_) rfl (by kernel_rfl) (by kernel_rfl) (by kernel_rfl) (fun _ _ _ h => h) (Or.inl ⟨by kernel_rfl, ?hy9⟩) (by assumption) ?_
    case hy9 => (intro w' hSw; (try dsimp only at hSw); go_simp; try with_reducible rfl)
    simp only [Act.put, List.setIfInBounds_toArray, List.set_cons_zero, List.set_cons_succ]
    refine wpAnyH_ready (rs := [3]) (by kernel_rfl) (by simp) ?_
    refine AllReadyH.cons (o := ⟨some 51, _, _, _, _, _⟩) rfl (fun K hK => ?_) AllReadyH.nil
    (rw [if_pos (by kernel_rfl)])
    go_simp
    (refine (HB3.out _ (spans_below Hsp.out K6.out)).mono ?_; rintro e w7 ⟨rfl, hb7⟩; have k7 := K6.out.trans (hb7.mono K6.out.size); have b7 := B6.out.below hb7; have r7 := R6.out.below hb7; have r70 := r7.c0; have r71 := r7.c1; have q70 := r7.f0; have q71 := r7.f1)
    refine hK.out _ _ ⟨b7.c0, b7.c1⟩ (fun hHeld => ?_)
    clear hK K
    refine wpAnyH_take (i := 4) (oi := ⟨some 52, _, _, _, _, _⟩) (v := ?_) rfl (by kernel_rfl) (by kernel_rfl) (by kernel_rfl) (fun _ _ _ h => h) (Or.inl ⟨by kernel_rfl, ?hy4⟩) (by assumption) ?_
    case hy4 => (intro w' hSw; (try dsimp only at hSw); go_simp; try with_reducible rfl)
    simp only [Act.put, List.setIfInBounds_toArray, List.set_cons_zero, List.set_cons_succ]
    refine wpAnyH_ready (rs := [10]) (by kernel_rfl) (by simp) ?_
    refine AllReadyH.cons (o := ⟨none, _, _, _, _, _⟩) rfl (fun K hK => ?_) AllReadyH.nil
    (rw [if_pos (by kernel_rfl)])
    go_simp
    refine hK.out _ _ ⟨((b7.other (i := 0) (Nat.ne_of_lt (Nat.lt_succ_self _)) _).other (i := 1) (Nat.ne_of_lt (Nat.lt_succ_self _)) _).c0, ((b7.other (i := 0) (Nat.ne_of_lt (Nat.lt_succ_self _)) _).other (i := 1) (Nat.ne_of_lt (Nat.lt_succ_self _)) _).c1⟩ (fun hHeld => ?_)
    clear hK K
    refine wpAnyH_take (i := 11) (oi := ⟨some 7, _, _, _, _, _⟩) (v := ?_) rfl (by kernel_rfl) (by kernel_rfl) (by kernel_rfl) (fun _ _ _ h => h) (Or.inl ⟨by kernel_rfl, ?hy11⟩) (by assumption) ?_
    case hy11 => (intro w' hSw; (try dsimp only at hSw); go_simp; try with_reducible rfl)
    simp only [Act.put, List.setIfInBounds_toArray, List.set_cons_zero, List.set_cons_succ]
    refine wpAnyH_done (by kernel_rfl) ?_ _
    have K7 := Lib.hid k7
    have R7 := Lib.hid r7
    go_wp2
    refine bodyPost_ret (results_bx2 rfl _ _ (w.heap.size + 1) (.string (bs cS)) (.int .i64 (ca : Int)) 43 rfl ((R7.out.set0 _).set1 _) Tryz.underlying43 (sizeBuf _)) rfl ?_
    exact ⟨rfl, (K7.out.setCell (p := ⟨w.heap.size + 1, 0, none⟩) (Nat.le_succ _) _).setCell (p := ⟨w.heap.size + 1, 1, none⟩) (Nat.le_succ _) _⟩
theorem cutT_calls (l : List UInt8) (n x y : Int) (hl : l.length ≤ 137438953472) (w : World) (hsp : Spans w) :
    Calls Tryz.prog 108 #[.agg #[.string (bs l), .int .i64 n], .int .i64 x, .int .i64 y] w fun e w' => e = .returned (.tuple #[.agg #[.string (bs (cutR (mS l) (mA l n) (backL (mS l) x) (backL (mS l) y)).1), .int .i64 ((cutR (mS l) (mA l n) (backL (mS l) x) (backL (mS l) y)).2.1 : Int)], .string (bs (cutR (mS l) (mA l n) (backL (mS l) x) (backL (mS l) y)).2.2)]) ∧ Below w.heap.size w w' := by
  unfold cutR
  by_cases h : backL (mS l) x < backL (mS l) y
  · rw [if_pos h]
    dsimp only
    exact cutT_ok l n x y hl w hsp h
  · rw [if_neg h]
    dsimp only
    rw [show bs [] = (⟨#[]⟩ : ByteArray) from rfl]
    exact cutT_no l n x y hl w hsp (by omega)
end
section
open Go Go.RowKit
set_option maxRecDepth 100000
section
variable (w : World) (O F : Nat → Prop) (b : Nat) (s : LN)
set_option maxHeartbeats 2000000 in
theorem act_backspace (k0 : Int) (t : ByteArray) (h : LineL w O F b s) (hsp : Spans w) :
    Calls Tryz.prog 72 #[.pointer (some ⟨b, 0, none⟩), .agg #[.int .i64 k0, .string t]] w fun e w' => e = .returned (dV .none) ∧ ToLn w O F w' b ⟨wrG s.log ((cutR s.buf.1 s.buf.2 (prvL s.buf.1 s.buf.2) (s.buf.2)).1, (cutR s.buf.1 s.buf.2 (prvL s.buf.1 s.buf.2) (s.buf.2)).2.1) 0, s.ring, s.last⟩ := by
  obtain ⟨W2, hW2, hB2, hs2, hk2, hd2⟩ := boxesA w k0 t
  have HB2 := Lib.hid hB2
  have HN2 := Lib.hid hs2
  have HD2 := Lib.hid hd2
  have H := Lib.hid h
  have H2 := Lib.hid (objLn.below h hB2)
  have HS := Lib.hid hsp
  have hrt := (line_ok h).rt.1
  have hl6 : s.buf.1.length ≤ 137438953472 := Nat.le_trans hrt.2.1 (by decide)
  have e1 : mS s.buf.1 = s.buf.1 := hrt.make.1
  have e2 : mA s.buf.1 s.buf.2 = s.buf.2 := hrt.make.2
  have HQ := Lib.hid (fun W hS => prev_calls s.buf.1 s.buf.2 hl6 W hS)
  rw [e1, e2] at HQ
  have HC := Lib.hid (fun W hS => cutT_calls s.buf.1 s.buf.2 (prvL s.buf.1 s.buf.2 : Int) (s.buf.2 : Int) hl6 W hS)
  have e3 : backL s.buf.1 (s.buf.2 : Int) = s.buf.2 := IsB.back hrt.2.2
  rw [e1, e2, e3, back_prv] at HC
  clear e3
  have HR : Hid (Rt (cutR s.buf.1 s.buf.2 (prvL s.buf.1 s.buf.2) (s.buf.2)).1 (cutR s.buf.1 s.buf.2 (prvL s.buf.1 s.buf.2) (s.buf.2)).2.1) := Lib.hid (LN.cutR_rt (line_ok h).rt.1 ((isB_back s.buf.1 _ : IsB s.buf.1 (prvL s.buf.1 s.buf.2))) (hrt.2.2))
  clear h hsp hB2 hs2 hk2 hd2 hrt hl6 e1 e2
  go_enter Tryz.func72, Tryz.ntmps72
  go_wp2_with fail
  refine (buf_callsL W2 O F b s H2.out (spans_below HS.out HB2.out)).mono ?_
  rintro e w3 ⟨rfl, hb3⟩
  have x3 := Bx.new w3 43 (.string ⟨#[]⟩) (.int .i64 0)
  have f0 := x3.f0
  have f1 := x3.f1
  have g0 := x3.c0
  have g1 := x3.c1
  have x4 := Bx.new w3 43 (.string (bs s.buf.1)) (.int .i64 (s.buf.2 : Int))
  have hb4 := hb3.alloc hb3.size (.cells #[.string (bs s.buf.1), .int .i64 (s.buf.2 : Int)] 43)
  obtain ⟨W4, hW4⟩ : ∃ W4, w3.alloc (.cells #[.string (bs s.buf.1), .int .i64 (s.buf.2 : Int)] 43) = W4 := ⟨_, rfl⟩
  rw [hW4] at x4 hb4
  have y0 := x4.c0
  have y1 := x4.c1
  have HB4 := Lib.hid hb4
  have hk2 := hb3.size
  have HS4 : Hid (∀ W, Below W4.heap.size W4 W → W.cell? ⟨w3.heap.size, 0, none⟩ = some (.string (bs s.buf.1)) ∧ W.cell? ⟨w3.heap.size, 1, none⟩ = some (.int .i64 (s.buf.2 : Int))) := Lib.hid (fun W hW => ⟨(x4.below hW).c0, (x4.below hW).c1⟩)
  have HX4 := Lib.hid x4
  clear x3 x4 hb4
  generalize hc : cutR s.buf.1 s.buf.2 (prvL s.buf.1 s.buf.2) (s.buf.2) = c at HC HR
  have Hc := Lib.hid hc
  clear hc
  generalize hv : prvL s.buf.1 s.buf.2 = v at HQ HC
  clear hv
  go_upto_region 2 with fail
  refine wp_region_later (S := (fun w' => w'.cell? ⟨w3.heap.size, 0, none⟩ = some (.string (bs s.buf.1)) ∧ w'.cell? ⟨w3.heap.size, 1, none⟩ = some (.int .i64 (s.buf.2 : Int)))) 12 (by kernel_rfl) ⟨y0, y1⟩ (fun hHeld => ?_)
  refine laterAny_take (i := 0) (oi := ⟨some 9, _, _, _, _, _⟩) (v := ?_) rfl (by kernel_rfl) (by kernel_rfl) (by decide) (by kernel_rfl) (by kernel_rfl) (by kernel_rfl) (fun _ _ _ h => h) (Or.inl ⟨by kernel_rfl, ?hy0⟩) (by assumption) ?_
  case hy0 => (intro w' hSw; (try dsimp only at hSw); go_simp; try with_reducible rfl)
  simp only [Act.put, List.setIfInBounds_toArray, List.set_cons_zero, List.set_cons_succ]
  refine laterAny_take (i := 1) (oi := ⟨some 10, _, _, _, _, _⟩) (v := ?_) rfl (by kernel_rfl) (by kernel_rfl) (by decide) (by kernel_rfl) (by kernel_rfl) (by kernel_rfl) (fun _ _ _ h => h) (Or.inl ⟨by kernel_rfl, ?hy1⟩) (by assumption) ?_
  case hy1 => (intro w' hSw; (try dsimp only at hSw); go_simp; try with_reducible rfl)
  simp only [Act.put, List.setIfInBounds_toArray, List.set_cons_zero, List.set_cons_succ]
  refine laterAny_take (i := 2) (oi := ⟨some 11, _, _, _, _, _⟩) (v := ?_) rfl (by kernel_rfl) (by kernel_rfl) (by decide) (by kernel_rfl) (by kernel_rfl) (by kernel_rfl) (fun _ _ _ h => h) (Or.inl ⟨by kernel_rfl, ?hy2⟩) (by assumption) ?_
  case hy2 => (intro w' hSw; (try dsimp only at hSw); go_simp; try with_reducible rfl)
  simp only [Act.put, List.setIfInBounds_toArray, List.set_cons_zero, List.set_cons_succ]
  refine laterAny_take (i := 3) (oi := ⟨some 12, _, _, _, _, _⟩) (v := ?_) rfl (by kernel_rfl) (by kernel_rfl) (by decide) (by kernel_rfl) (by kernel_rfl) (by kernel_rfl) (fun _ _ _ h => h) (Or.inl ⟨by kernel_rfl, ?hy3⟩) (by assumption) ?_
  case hy3 => (intro w' hSw; (try dsimp only at hSw); go_simp; try with_reducible rfl)
  simp only [Act.put, List.setIfInBounds_toArray, List.set_cons_zero, List.set_cons_succ]
  refine laterAny_take (i := 4) (oi := ⟨some 13, _, _, _, _, _⟩) (v := ?_) rfl (by kernel_rfl) (by kernel_rfl) (by decide) (by kernel_rfl) (by kernel_rfl) (by kernel_rfl) (fun _ _ _ h => h) (Or.inl ⟨by kernel_rfl, ?hy4⟩) (by assumption) ?_
  case hy4 => (intro w' hSw; (try dsimp only at hSw); go_simp; try with_reducible rfl)
  simp only [Act.put, List.setIfInBounds_toArray, List.set_cons_zero, List.set_cons_succ]
  refine laterAny_take (i := 6) (oi := ⟨some 15, _, _, _, _, _⟩) (v := ?_) rfl (by kernel_rfl) (by kernel_rfl) (by decide) (by kernel_rfl) (by kernel_rfl) (by kernel_rfl) (fun _ _ _ h => h) (Or.inl ⟨by kernel_rfl, ?hy6⟩) (by assumption) ?_
  case hy6 => (intro w' hSw; (try dsimp only at hSw); go_simp; try with_reducible rfl)
  simp only [Act.put, List.setIfInBounds_toArray, List.set_cons_zero, List.set_cons_succ]
  refine laterAny_take (i := 7) (oi := ⟨some 16, _, _, _, _, _⟩) (v := ?_) rfl (by kernel_rfl) (by kernel_rfl) (by decide) (by kernel_rfl) (by kernel_rfl) (by kernel_rfl) (fun _ _ _ h => h) (Or.inl ⟨by kernel_rfl, ?hy7⟩) (by assumption) ?_
  case hy7 => (intro w' hSw; (try dsimp only at hSw); go_simp; try with_reducible rfl)
  simp only [Act.put, List.setIfInBounds_toArray, List.set_cons_zero, List.set_cons_succ]
  refine laterAny_ready (rs := [5]) (by kernel_rfl) (by simp) ?_
  refine AllReadyB.cons (o := ⟨some 14, _, _, _, _, _⟩) rfl (fun K hK => ?_) AllReadyB.nil
  (rw [if_pos (by kernel_rfl)])
  go_simp
  refine (HQ.out W4.drew (spans_below HS.out (HB2.out.trans (HB4.out.drew.mono HB2.out.size)))).mono ?_
  rintro e w5 ⟨rfl, hb5⟩
  have hb5' : Below W4.heap.size W4 w5 := (Below.refl _ W4).drew.trans hb5
  have q5 := HS4.out w5 hb5'
  have HB5 := Lib.hid hb5'
  clear hb5 hb5' HQ
  refine hK.out _ _ q5 (fun hHeld => ?_)
  clear hK K
  refine laterAny_ready (rs := [8]) (by kernel_rfl) (by simp) ?_
  refine AllReadyB.cons (o := ⟨some 17, _, _, _, _, _⟩) rfl (fun K hK => ?_) AllReadyB.nil
  (rw [if_pos (by kernel_rfl)])
  go_simp
  refine (HC.out w5 (spans_below HS.out (HB2.out.trans ((HB4.out.trans (HB5.out.mono HB4.out.size)).mono HB2.out.size)))).mono ?_
  rintro e w6 ⟨rfl, hb6⟩
  have hb6' := HB5.out.trans (hb6.mono HB5.out.size)
  have q6 := HS4.out w6 hb6'
  have HB6 := Lib.hid hb6'
  have x6 := HX4.out.below hb6'
  have u0 := x6.f0
  have u1 := x6.f1
  have x7 := Lib.hid ((x6.set0 (.string (bs c.1))).set1 (.int .i64 (c.2.1 : Int)))
  clear hb6 hb6' HC x6
  refine hK.out _ _ q6 (fun hHeld => ?_)
  clear hK K
  refine laterAny_take (i := 9) (oi := ⟨some 8, _, _, _, _, _⟩) (v := ?_) rfl (by kernel_rfl) (by kernel_rfl) (by decide) (by kernel_rfl) (by kernel_rfl) (by kernel_rfl) (fun _ _ _ h => h) (Or.inl ⟨by kernel_rfl, ?hy9⟩) (by assumption) ?_
  case hy9 => (intro w' hSw; (try dsimp only at hSw); go_simp; try with_reducible rfl)
  simp only [Act.put, List.setIfInBounds_toArray, List.set_cons_zero, List.set_cons_succ]
  refine laterAny_take (i := 10) (oi := ⟨some 18, _, _, _, _, _⟩) (v := ?_) rfl (by kernel_rfl) (by kernel_rfl) (by decide) (by kernel_rfl) (by kernel_rfl) (by kernel_rfl) (fun _ _ _ h => h) (Or.inl ⟨by kernel_rfl, ?hy10⟩) (by assumption) ?_
  case hy10 => (intro w' hSw; (try dsimp only at hSw); go_simp; try with_reducible rfl)
  simp only [Act.put, List.setIfInBounds_toArray, List.set_cons_zero, List.set_cons_succ]
  obtain ⟨W7, hW7⟩ : ∃ W7, (w6.setCell ⟨w3.heap.size, 0, none⟩ (.string (bs c.1))).setCell ⟨w3.heap.size, 1, none⟩ (.int .i64 (c.2.1 : Int)) = W7 := ⟨_, rfl⟩
  have v0 := x7.out.c0
  have v1 := x7.out.c1
  have hb7 : Below W2.heap.size W2 W7 := by
    rw [← hW7]
    exact ((HB4.out.trans (HB6.out.mono HB4.out.size)).setCell (p := ⟨w3.heap.size, 0, none⟩) hk2 _).setCell (p := ⟨w3.heap.size, 1, none⟩) hk2 _
  rw [hW7] at v0 v1
  have HB7 := Lib.hid hb7
  clear hb7 x7
  refine laterAny_ready (rs := [11, 12]) (by kernel_rfl) (by simp) ?_
  refine AllReadyB.cons (o := ⟨some 19, _, _, _, _, _⟩) rfl (fun K hK => ?_) (AllReadyB.past (o := ⟨none, _, _, _, _, _⟩) rfl (by kernel_rfl) (fun K hK => ?_) AllReadyB.nil)
  · (rw [if_pos (by kernel_rfl)])
    go_simp
    refine hK.out _ _ q6 (fun hHeld => ?_)
    clear hK K
    refine laterAny_ready (rs := [12]) (by kernel_rfl) (by simp) ?_
    refine AllReadyB.past (o := ⟨none, _, _, _, _, _⟩) rfl (by kernel_rfl) (fun K hK => ?_) AllReadyB.nil
    (rw [if_pos (by kernel_rfl)])
    go_simp
    refine hK.out _ _ ?_
    clear hK K
    refine laterAny_done (by kernel_rfl) ?_
    go_wp2_with fail
    refine (write_callsL W7 O F b s (objLn.below H2.out HB7.out) (c.1, c.2.1) HR.out).mono ?_
    rintro e w8 ⟨rfl, ht⟩
    have hf := fin3 H.out HB2.out (Nat.le_add_right _ 1) (by have := HN2.out; omega) HD2.out HB7.out ht
    have HF := Lib.hid hf.2
    have hd9 := hf.1
    have q0 := hd9.c 0 rfl
    have q1 := hd9.c 1 rfl
    have q2 := hd9.c 2 rfl
    have p0 := hd9.free 0
    have p1 := hd9.free 1
    have p2 := hd9.free 2
    have HD9 := Lib.hid hd9
    clear hf hd9
    go_wp2_with fail
    refine bodyPost_ret (results_bx3 rfl _ _ (w.heap.size + 1) _ _ _ 60 rfl (three_box HD9.out _ _ _) Tryz.underlying60 (szD _)) rfl ?_
    exact ⟨rfl, by rw [Hc.out]; exact HF.out _ _ _⟩
  · (rw [if_pos (by kernel_rfl)])
    go_simp
    refine hK.out _ _ ?_
    clear hK K
    refine laterAny_ready (rs := [11]) (by kernel_rfl) (by simp) ?_
    refine AllReadyB.past (o := ⟨some 19, _, _, _, _, _⟩) rfl (by kernel_rfl) (fun K hK => ?_) AllReadyB.nil
    (rw [if_pos (by kernel_rfl)])
    go_simp
    refine hK.out _ _ ?_
    clear hK K
    refine laterAny_done (by kernel_rfl) ?_
    go_wp2_with fail
    refine (write_callsL W7 O F b s (objLn.below H2.out HB7.out) (c.1, c.2.1) HR.out).mono ?_
    rintro e w8 ⟨rfl, ht⟩
    have hf := fin3 H.out HB2.out (Nat.le_add_right _ 1) (by have := HN2.out; omega) HD2.out HB7.out ht
    have HF := Lib.hid hf.2
    have hd9 := hf.1
    have q0 := hd9.c 0 rfl
    have q1 := hd9.c 1 rfl
    have q2 := hd9.c 2 rfl
    have p0 := hd9.free 0
    have p1 := hd9.free 1
    have p2 := hd9.free 2
    have HD9 := Lib.hid hd9
    clear hf hd9
    go_wp2_with fail
    refine bodyPost_ret (results_bx3 rfl _ _ (w.heap.size + 1) _ _ _ 60 rfl (three_box HD9.out _ _ _) Tryz.underlying60 (szD _)) rfl ?_
    exact ⟨rfl, by rw [Hc.out]; exact HF.out _ _ _⟩
set_option maxHeartbeats 2000000 in
theorem act_del (k0 : Int) (t : ByteArray) (h : LineL w O F b s) (hsp : Spans w) :
    Calls Tryz.prog 73 #[.pointer (some ⟨b, 0, none⟩), .agg #[.int .i64 k0, .string t]] w fun e w' => e = .returned (dV .none) ∧ ToLn w O F w' b ⟨wrG s.log ((cutR s.buf.1 s.buf.2 (s.buf.2) (nxtL s.buf.1 s.buf.2)).1, (cutR s.buf.1 s.buf.2 (s.buf.2) (nxtL s.buf.1 s.buf.2)).2.1) 0, s.ring, s.last⟩ := by
  obtain ⟨W2, hW2, hB2, hs2, hk2, hd2⟩ := boxesA w k0 t
  have HB2 := Lib.hid hB2
  have HN2 := Lib.hid hs2
  have HD2 := Lib.hid hd2
  have H := Lib.hid h
  have H2 := Lib.hid (objLn.below h hB2)
  have HS := Lib.hid hsp
  have hrt := (line_ok h).rt.1
  have hl6 : s.buf.1.length ≤ 137438953472 := Nat.le_trans hrt.2.1 (by decide)
  have e1 : mS s.buf.1 = s.buf.1 := hrt.make.1
  have e2 : mA s.buf.1 s.buf.2 = s.buf.2 := hrt.make.2
  have HQ := Lib.hid (fun W hS => next_callsT s.buf.1 s.buf.2 hl6 W hS)
  rw [e1, e2] at HQ
  have HC := Lib.hid (fun W hS => cutT_calls s.buf.1 s.buf.2 ((s.buf.2 : Nat) : Int) (nxtL s.buf.1 s.buf.2 : Int) hl6 W hS)
  have e3 : backL s.buf.1 (s.buf.2 : Int) = s.buf.2 := IsB.back hrt.2.2
  rw [e1, e2, e3, back_nxt] at HC
  clear e3
  have HR : Hid (Rt (cutR s.buf.1 s.buf.2 (s.buf.2) (nxtL s.buf.1 s.buf.2)).1 (cutR s.buf.1 s.buf.2 (s.buf.2) (nxtL s.buf.1 s.buf.2)).2.1) := Lib.hid (LN.cutR_rt (line_ok h).rt.1 (hrt.2.2) ((isB_on s.buf.1 _ : IsB s.buf.1 (nxtL s.buf.1 s.buf.2))))
  clear h hsp hB2 hs2 hk2 hd2 hrt hl6 e1 e2
  go_enter Tryz.func73, Tryz.ntmps73
  go_wp2_with fail
  refine (buf_callsL W2 O F b s H2.out (spans_below HS.out HB2.out)).mono ?_
  rintro e w3 ⟨rfl, hb3⟩
  have x3 := Bx.new w3 43 (.string ⟨#[]⟩) (.int .i64 0)
  have f0 := x3.f0
  have f1 := x3.f1
  have g0 := x3.c0
  have g1 := x3.c1
  have x4 := Bx.new w3 43 (.string (bs s.buf.1)) (.int .i64 (s.buf.2 : Int))
  have hb4 := hb3.alloc hb3.size (.cells #[.string (bs s.buf.1), .int .i64 (s.buf.2 : Int)] 43)
  obtain ⟨W4, hW4⟩ : ∃ W4, w3.alloc (.cells #[.string (bs s.buf.1), .int .i64 (s.buf.2 : Int)] 43) = W4 := ⟨_, rfl⟩
  rw [hW4] at x4 hb4
  have y0 := x4.c0
  have y1 := x4.c1
  have HB4 := Lib.hid hb4
  have hk2 := hb3.size
  have HS4 : Hid (∀ W, Below W4.heap.size W4 W → W.cell? ⟨w3.heap.size, 0, none⟩ = some (.string (bs s.buf.1)) ∧ W.cell? ⟨w3.heap.size, 1, none⟩ = some (.int .i64 (s.buf.2 : Int))) := Lib.hid (fun W hW => ⟨(x4.below hW).c0, (x4.below hW).c1⟩)
  have HX4 := Lib.hid x4
  clear x3 x4 hb4
  generalize hc : cutR s.buf.1 s.buf.2 (s.buf.2) (nxtL s.buf.1 s.buf.2) = c at HC HR
  have Hc := Lib.hid hc
  clear hc
  generalize hv : nxtL s.buf.1 s.buf.2 = v at HQ HC
  clear hv
  go_upto_region 2 with fail
  refine wp_region_later (S := (fun w' => w'.cell? ⟨w3.heap.size, 0, none⟩ = some (.string (bs s.buf.1)) ∧ w'.cell? ⟨w3.heap.size, 1, none⟩ = some (.int .i64 (s.buf.2 : Int)))) 12 (by kernel_rfl) ⟨y0, y1⟩ (fun hHeld => ?_)
  refine laterAny_take (i := 0) (oi := ⟨some 9, _, _, _, _, _⟩) (v := ?_) rfl (by kernel_rfl) (by kernel_rfl) (by decide) (by kernel_rfl) (by kernel_rfl) (by kernel_rfl) (fun _ _ _ h => h) (Or.inl ⟨by kernel_rfl, ?hy0⟩) (by assumption) ?_
  case hy0 => (intro w' hSw; (try dsimp only at hSw); go_simp; try with_reducible rfl)
  simp only [Act.put, List.setIfInBounds_toArray, List.set_cons_zero, List.set_cons_succ]
  refine laterAny_take (i := 1) (oi := ⟨some 10, _, _, _, _, _⟩) (v := ?_) rfl (by kernel_rfl) (by kernel_rfl) (by decide) (by kernel_rfl) (by kernel_rfl) (by kernel_rfl) (fun _ _ _ h => h) (Or.inl ⟨by kernel_rfl, ?hy1⟩) (by assumption) ?_
  case hy1 => (intro w' hSw; (try dsimp only at hSw); go_simp; try with_reducible rfl)
  simp only [Act.put, List.setIfInBounds_toArray, List.set_cons_zero, List.set_cons_succ]
  refine laterAny_take (i := 2) (oi := ⟨some 11, _, _, _, _, _⟩) (v := ?_) rfl (by kernel_rfl) (by kernel_rfl) (by decide) (by kernel_rfl) (by kernel_rfl) (by kernel_rfl) (fun _ _ _ h => h) (Or.inl ⟨by kernel_rfl, ?hy2⟩) (by assumption) ?_
  case hy2 => (intro w' hSw; (try dsimp only at hSw); go_simp; try with_reducible rfl)
  simp only [Act.put, List.setIfInBounds_toArray, List.set_cons_zero, List.set_cons_succ]
  refine laterAny_take (i := 3) (oi := ⟨some 12, _, _, _, _, _⟩) (v := ?_) rfl (by kernel_rfl) (by kernel_rfl) (by decide) (by kernel_rfl) (by kernel_rfl) (by kernel_rfl) (fun _ _ _ h => h) (Or.inl ⟨by kernel_rfl, ?hy3⟩) (by assumption) ?_
  case hy3 => (intro w' hSw; (try dsimp only at hSw); go_simp; try with_reducible rfl)
  simp only [Act.put, List.setIfInBounds_toArray, List.set_cons_zero, List.set_cons_succ]
  refine laterAny_take (i := 4) (oi := ⟨some 13, _, _, _, _, _⟩) (v := ?_) rfl (by kernel_rfl) (by kernel_rfl) (by decide) (by kernel_rfl) (by kernel_rfl) (by kernel_rfl) (fun _ _ _ h => h) (Or.inl ⟨by kernel_rfl, ?hy4⟩) (by assumption) ?_
  case hy4 => (intro w' hSw; (try dsimp only at hSw); go_simp; try with_reducible rfl)
  simp only [Act.put, List.setIfInBounds_toArray, List.set_cons_zero, List.set_cons_succ]
  refine laterAny_take (i := 5) (oi := ⟨some 14, _, _, _, _, _⟩) (v := ?_) rfl (by kernel_rfl) (by kernel_rfl) (by decide) (by kernel_rfl) (by kernel_rfl) (by kernel_rfl) (fun _ _ _ h => h) (Or.inl ⟨by kernel_rfl, ?hy5⟩) (by assumption) ?_
  case hy5 => (intro w' hSw; (try dsimp only at hSw); go_simp; try with_reducible rfl)
  simp only [Act.put, List.setIfInBounds_toArray, List.set_cons_zero, List.set_cons_succ]
  refine laterAny_take (i := 6) (oi := ⟨some 15, _, _, _, _, _⟩) (v := ?_) rfl (by kernel_rfl) (by kernel_rfl) (by decide) (by kernel_rfl) (by kernel_rfl) (by kernel_rfl) (fun _ _ _ h => h) (Or.inl ⟨by kernel_rfl, ?hy6⟩) (by assumption) ?_
  case hy6 => (intro w' hSw; (try dsimp only at hSw); go_simp; try with_reducible rfl)
  simp only [Act.put, List.setIfInBounds_toArray, List.set_cons_zero, List.set_cons_succ]
  refine laterAny_ready (rs := [7]) (by kernel_rfl) (by simp) ?_
  refine AllReadyB.cons (o := ⟨some 16, _, _, _, _, _⟩) rfl (fun K hK => ?_) AllReadyB.nil
  (rw [if_pos (by kernel_rfl)])
  go_simp
  refine (HQ.out W4.drew (spans_below HS.out (HB2.out.trans (HB4.out.drew.mono HB2.out.size)))).mono ?_
  rintro e w5 ⟨rfl, hb5⟩
  have hb5' : Below W4.heap.size W4 w5 := (Below.refl _ W4).drew.trans hb5
  have q5 := HS4.out w5 hb5'
  have HB5 := Lib.hid hb5'
  clear hb5 hb5' HQ
  refine hK.out _ _ q5 (fun hHeld => ?_)
  clear hK K
  refine laterAny_ready (rs := [8]) (by kernel_rfl) (by simp) ?_
  refine AllReadyB.cons (o := ⟨some 17, _, _, _, _, _⟩) rfl (fun K hK => ?_) AllReadyB.nil
  (rw [if_pos (by kernel_rfl)])
  go_simp
  refine (HC.out w5 (spans_below HS.out (HB2.out.trans ((HB4.out.trans (HB5.out.mono HB4.out.size)).mono HB2.out.size)))).mono ?_
  rintro e w6 ⟨rfl, hb6⟩
  have hb6' := HB5.out.trans (hb6.mono HB5.out.size)
  have q6 := HS4.out w6 hb6'
  have HB6 := Lib.hid hb6'
  have x6 := HX4.out.below hb6'
  have u0 := x6.f0
  have u1 := x6.f1
  have x7 := Lib.hid ((x6.set0 (.string (bs c.1))).set1 (.int .i64 (c.2.1 : Int)))
  clear hb6 hb6' HC x6
  refine hK.out _ _ q6 (fun hHeld => ?_)
  clear hK K
  refine laterAny_take (i := 9) (oi := ⟨some 8, _, _, _, _, _⟩) (v := ?_) rfl (by kernel_rfl) (by kernel_rfl) (by decide) (by kernel_rfl) (by kernel_rfl) (by kernel_rfl) (fun _ _ _ h => h) (Or.inl ⟨by kernel_rfl, ?hy9⟩) (by assumption) ?_
  case hy9 => (intro w' hSw; (try dsimp only at hSw); go_simp; try with_reducible rfl)
  simp only [Act.put, List.setIfInBounds_toArray, List.set_cons_zero, List.set_cons_succ]
  refine laterAny_take (i := 10) (oi := ⟨some 18, _, _, _, _, _⟩) (v := ?_) rfl (by kernel_rfl) (by kernel_rfl) (by decide) (by kernel_rfl) (by kernel_rfl) (by kernel_rfl) (fun _ _ _ h => h) (Or.inl ⟨by kernel_rfl, ?hy10⟩) (by assumption) ?_
  case hy10 => (intro w' hSw; (try dsimp only at hSw); go_simp; try with_reducible rfl)
  simp only [Act.put, List.setIfInBounds_toArray, List.set_cons_zero, List.set_cons_succ]
  obtain ⟨W7, hW7⟩ : ∃ W7, (w6.setCell ⟨w3.heap.size, 0, none⟩ (.string (bs c.1))).setCell ⟨w3.heap.size, 1, none⟩ (.int .i64 (c.2.1 : Int)) = W7 := ⟨_, rfl⟩
  have v0 := x7.out.c0
  have v1 := x7.out.c1
  have hb7 : Below W2.heap.size W2 W7 := by
    rw [← hW7]
    exact ((HB4.out.trans (HB6.out.mono HB4.out.size)).setCell (p := ⟨w3.heap.size, 0, none⟩) hk2 _).setCell (p := ⟨w3.heap.size, 1, none⟩) hk2 _
  rw [hW7] at v0 v1
  have HB7 := Lib.hid hb7
  clear hb7 x7
  refine laterAny_ready (rs := [11, 12]) (by kernel_rfl) (by simp) ?_
  refine AllReadyB.cons (o := ⟨some 19, _, _, _, _, _⟩) rfl (fun K hK => ?_) (AllReadyB.past (o := ⟨none, _, _, _, _, _⟩) rfl (by kernel_rfl) (fun K hK => ?_) AllReadyB.nil)
  · (rw [if_pos (by kernel_rfl)])
    go_simp
    refine hK.out _ _ q6 (fun hHeld => ?_)
    clear hK K
    refine laterAny_ready (rs := [12]) (by kernel_rfl) (by simp) ?_
    refine AllReadyB.past (o := ⟨none, _, _, _, _, _⟩) rfl (by kernel_rfl) (fun K hK => ?_) AllReadyB.nil
    (rw [if_pos (by kernel_rfl)])
    go_simp
    refine hK.out _ _ ?_
    clear hK K
    refine laterAny_done (by kernel_rfl) ?_
    go_wp2_with fail
    refine (write_callsL W7 O F b s (objLn.below H2.out HB7.out) (c.1, c.2.1) HR.out).mono ?_
    rintro e w8 ⟨rfl, ht⟩
    have hf := fin3 H.out HB2.out (Nat.le_add_right _ 1) (by have := HN2.out; omega) HD2.out HB7.out ht
    have HF := Lib.hid hf.2
    have hd9 := hf.1
    have q0 := hd9.c 0 rfl
    have q1 := hd9.c 1 rfl
    have q2 := hd9.c 2 rfl
    have p0 := hd9.free 0
    have p1 := hd9.free 1
    have p2 := hd9.free 2
    have HD9 := Lib.hid hd9
    clear hf hd9
    go_wp2_with fail
    refine bodyPost_ret (results_bx3 rfl _ _ (w.heap.size + 1) _ _ _ 60 rfl (three_box HD9.out _ _ _) Tryz.underlying60 (szD _)) rfl ?_
    exact ⟨rfl, by rw [Hc.out]; exact HF.out _ _ _⟩
  · (rw [if_pos (by kernel_rfl)])
    go_simp
    refine hK.out _ _ ?_
    clear hK K
    refine laterAny_ready (rs := [11]) (by kernel_rfl) (by simp) ?_
    refine AllReadyB.past (o := ⟨some 19, _, _, _, _, _⟩) rfl (by kernel_rfl) (fun K hK => ?_) AllReadyB.nil
    (rw [if_pos (by kernel_rfl)])
    go_simp
    refine hK.out _ _ ?_
    clear hK K
    refine laterAny_done (by kernel_rfl) ?_
    go_wp2_with fail
    refine (write_callsL W7 O F b s (objLn.below H2.out HB7.out) (c.1, c.2.1) HR.out).mono ?_
    rintro e w8 ⟨rfl, ht⟩
    have hf := fin3 H.out HB2.out (Nat.le_add_right _ 1) (by have := HN2.out; omega) HD2.out HB7.out ht
    have HF := Lib.hid hf.2
    have hd9 := hf.1
    have q0 := hd9.c 0 rfl
    have q1 := hd9.c 1 rfl
    have q2 := hd9.c 2 rfl
    have p0 := hd9.free 0
    have p1 := hd9.free 1
    have p2 := hd9.free 2
    have HD9 := Lib.hid hd9
    clear hf hd9
    go_wp2_with fail
    refine bodyPost_ret (results_bx3 rfl _ _ (w.heap.size + 1) _ _ _ 60 rfl (three_box HD9.out _ _ _) Tryz.underlying60 (szD _)) rfl ?_
    exact ⟨rfl, by rw [Hc.out]; exact HF.out _ _ _⟩
end
end
end Go.Proofs.YtoaponaljkhlfaaGreatDoor
