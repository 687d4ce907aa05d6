/-
  text.Cut: what the call comes to.
-/
import Derived.Test.YtifdgaklchihbaaDoorIns
import Derived.Deep.RegionWith
namespace Go.Proofs.YtifdgaklchihbaaDoor
open Go Go.RowKit

/-- What text.Cut answers: the text, the place, what is gone. -/
def cutR (m : List UInt8) (a : Nat) (f t : Nat) : List UInt8 × Nat × List UInt8 := if f < t then (cutS m f t, cutA m a f t, goneS m f t) else (m, a, [])
theorem cutAt_le (a f t : Nat) (ha : a ≤ 600) (hf : f ≤ 600) : cutAt a f t ≤ 600 := by unfold cutAt; split <;> omega

set_option maxHeartbeats 4000000 in
theorem cutT_no (l : List UInt8) (n x y : Int) (hl : l.length ≤ 137438953472) (w : World) (hsp : Spans w) (hft : backL (mS l) y ≤ backL (mS l) x) :
    Calls Tryd.prog 20 #[.agg #[.string (bs l), .int .i64 n], .int .i64 x, .int .i64 y] w fun e w' => e = .returned (.tuple #[.agg #[.string (bs (mS l)), .int .i64 (mA l n : Int)], .string ⟨#[]⟩]) ∧ Below w.heap.size w w' := by
  have HM := Lib.hid (fun W h => make_calls l n hl W h)
  have ha := mA_le l n
  have hms := mS_len l
  have HB1 := Lib.hid (fun W h => back_calls (mS l) x (by omega) W h)
  have HB2 := Lib.hid (fun W h => back_calls (mS l) y (by omega) W h)
  have hf := backL_le (mS l) x
  have ht := backL_le (mS l) y
  generalize backL (mS l) x = f at *
  generalize backL (mS l) y = t at *
  generalize mA l n = a at *
  generalize mS l = m at *
  have k0 : Below w.heap.size w ((w.alloc (.cells #[.string (bs l), .int .i64 n] 25)).alloc (.cells #[.string ⟨#[]⟩, .int .i64 0] 25)) := ((Below.refl _ w).alloc (Nat.le_refl _) _).alloc (by simp) _
  have b0 := (Bx.new w 25 (.string (bs l)) (.int .i64 n)).alloc (.cells #[.string ⟨#[]⟩, .int .i64 0] 25)
  have r0 := Bx.new (w.alloc (.cells #[.string (bs l), .int .i64 n] 25)) 25 (.string ⟨#[]⟩) (.int .i64 0)
  rw [World.size_alloc] at r0
  have c00 := b0.c0
  have c01 := b0.c1
  have Hsp := Lib.hid hsp
  have hd : decide ((t : Int) ≤ (f : Int)) = true := decide_eq_true (by omega)
  clear hsp
  go_enter Tryd.func20, Tryd.ntmps20
  go_wp2_with fail
  refine (HM.out _ (spans_below Hsp.out k0)).mono ?_
  rintro e w1 ⟨rfl, hb1⟩
  have k1 := k0.trans (hb1.mono k0.size)
  have b1 := b0.below hb1
  have r1 := r0.below hb1
  clear hb1 c00 c01 b0 r0 k0
  have c10 := b1.c0
  have c11 := b1.c1
  have f10 := b1.f0
  have f11 := b1.f1
  have b3 := (b1.set0 (.string (bs m))).set1 (.int .i64 (a : Int))
  have r3 := (r1.other (i := 0) (Nat.succ_ne_self _) (.string (bs m))).other (i := 1) (Nat.succ_ne_self _) (.int .i64 (a : Int))
  have k3 := (k1.setCell (p := ⟨w.heap.size, 0, none⟩) (Nat.le_refl _) (.string (bs m))).setCell (p := ⟨w.heap.size, 1, none⟩) (Nat.le_refl _) (.int .i64 (a : Int))
  have c30 := b3.c0
  have c31 := b3.c1
  go_wp2_with fail
  generalize (w1.setCell ⟨w.heap.size, 0, none⟩ (.string (bs m))).setCell ⟨w.heap.size, 1, none⟩ (.int .i64 (a : Int)) = W3 at *
  have K3 := Lib.hid k3.drew
  have B3 := Lib.hid b3.drew
  have R3 := Lib.hid r3.drew
  clear b3 r3 k3 b1 r1 k1 c10 c11 f10 f11
  refine wp_region_held_drew (S := (fun w' => w'.cell? ⟨w.heap.size, 0, none⟩ = some (.string (bs m)) ∧ w'.cell? ⟨w.heap.size, 1, none⟩ = some (.int .i64 (a : Int)))) (by kernel_rfl) ⟨c30, c31⟩ (fun hHeld => ?_)
  refine wpAnyH_take (i := 0) (oi := ⟨some 15, _, _, _, _, _⟩) (v := ?_) rfl (by kernel_rfl) (by kernel_rfl) (by kernel_rfl) (fun _ _ _ h => h) (Or.inl ⟨by kernel_rfl, ?hy0⟩) (by assumption) ?_
  case hy0 => (intro w' hSw; (try dsimp only at hSw); go_simp; try with_reducible rfl)
  simp only [Act.put, List.setIfInBounds_toArray, List.set_cons_zero, List.set_cons_succ]
  refine wpAnyH_take (i := 1) (oi := ⟨some 16, _, _, _, _, _⟩) (v := ?_) rfl (by kernel_rfl) (by kernel_rfl) (by kernel_rfl) (fun _ _ _ h => h) (Or.inl ⟨by kernel_rfl, ?hy1⟩) (by assumption) ?_
  case hy1 => (intro w' hSw; (try dsimp only at hSw); go_simp; try with_reducible rfl)
  simp only [Act.put, List.setIfInBounds_toArray, List.set_cons_zero, List.set_cons_succ]
  refine wpAnyH_take (i := 2) (oi := ⟨some 17, _, _, _, _, _⟩) (v := ?_) rfl (by kernel_rfl) (by kernel_rfl) (by kernel_rfl) (fun _ _ _ h => h) (Or.inl ⟨by kernel_rfl, ?hy2⟩) (by assumption) ?_
  case hy2 => (intro w' hSw; (try dsimp only at hSw); go_simp; try with_reducible rfl)
  simp only [Act.put, List.setIfInBounds_toArray, List.set_cons_zero, List.set_cons_succ]
  refine wpAnyH_take (i := 4) (oi := ⟨some 19, _, _, _, _, _⟩) (v := ?_) rfl (by kernel_rfl) (by kernel_rfl) (by kernel_rfl) (fun _ _ _ h => h) (Or.inl ⟨by kernel_rfl, ?hy4⟩) (by assumption) ?_
  case hy4 => (intro w' hSw; (try dsimp only at hSw); go_simp; try with_reducible rfl)
  simp only [Act.put, List.setIfInBounds_toArray, List.set_cons_zero, List.set_cons_succ]
  refine wpAnyH_take (i := 5) (oi := ⟨some 20, _, _, _, _, _⟩) (v := ?_) rfl (by kernel_rfl) (by kernel_rfl) (by kernel_rfl) (fun _ _ _ h => h) (Or.inl ⟨by kernel_rfl, ?hy5⟩) (by assumption) ?_
  case hy5 => (intro w' hSw; (try dsimp only at hSw); go_simp; try with_reducible rfl)
  simp only [Act.put, List.setIfInBounds_toArray, List.set_cons_zero, List.set_cons_succ]
  refine wpAnyH_take (i := 6) (oi := ⟨some 21, _, _, _, _, _⟩) (v := ?_) rfl (by kernel_rfl) (by kernel_rfl) (by kernel_rfl) (fun _ _ _ h => h) (Or.inl ⟨by kernel_rfl, ?hy6⟩) (by assumption) ?_
  case hy6 => (intro w' hSw; (try dsimp only at hSw); go_simp; try with_reducible rfl)
  simp only [Act.put, List.setIfInBounds_toArray, List.set_cons_zero, List.set_cons_succ]
  refine wpAnyH_ready (rs := [3]) (by kernel_rfl) (by simp) ?_
  refine AllReadyH.cons (o := ⟨some 18, _, _, _, _, _⟩) rfl (fun K hK => ?_) AllReadyH.nil
  (rw [if_pos (by kernel_rfl)])
  go_simp
  (refine (HB1.out _ (spans_below Hsp.out K3.out)).mono ?_; rintro e w4 ⟨rfl, hb4⟩; have k4 := K3.out.trans (hb4.mono K3.out.size); have b4 := B3.out.below hb4; have r4 := R3.out.below hb4; have c40 := b4.c0; have c41 := b4.c1)
  refine hK.out _ _ ⟨c40, c41⟩ (fun hHeld => ?_)
  clear hK K
  refine wpAnyH_ready (rs := [7]) (by kernel_rfl) (by simp) ?_
  refine AllReadyH.cons (o := ⟨some 22, _, _, _, _, _⟩) rfl (fun K hK => ?_) AllReadyH.nil
  (rw [if_pos (by kernel_rfl)])
  go_simp
  (refine (HB2.out _ (spans_below Hsp.out k4)).mono ?_; rintro e w5 ⟨rfl, hb5⟩; have k5 := k4.trans (hb5.mono k4.size); have b5 := b4.below hb5; have r5 := r4.below hb5; have c50 := b5.c0; have c51 := b5.c1)
  refine hK.out _ _ ⟨c50, c51⟩ (fun hHeld => ?_)
  clear hK K
  refine wpAnyH_take (i := 8) (oi := ⟨some 1, _, _, _, _, _⟩) (v := ?_) rfl (by kernel_rfl) (by kernel_rfl) (by kernel_rfl) (fun _ _ _ h => h) (Or.inl ⟨by kernel_rfl, ?hy8⟩) (by assumption) ?_
  case hy8 => (intro w' hSw; (try dsimp only at hSw); go_simp; try with_reducible rfl)
  simp only [Act.put, List.setIfInBounds_toArray, List.set_cons_zero, List.set_cons_succ]
  refine wpAnyH_take (i := 9) (oi := ⟨some 2, _, _, _, _, _⟩) (v := ?_) rfl (by kernel_rfl) (by kernel_rfl) (by kernel_rfl) (fun _ _ _ h => h) (Or.inl ⟨by kernel_rfl, ?hy9⟩) (by assumption) ?_
  case hy9 => (intro w' hSw; (try dsimp only at hSw); go_simp; try with_reducible rfl)
  simp only [Act.put, List.setIfInBounds_toArray, List.set_cons_zero, List.set_cons_succ]
  refine wpAnyH_done (by kernel_rfl) ?_ _
  have K5 := Lib.hid k5
  have R5 := Lib.hid r5
  have r50 := r5.c0
  have r51 := r5.c1
  have q50 := r5.f0
  have q51 := r5.f1
  clear hHeld k4 b4 r4 c40 c41 hb4 hb5 k5 b5 r5 c30 c31
  go_wp2
  refine bodyPost_ret (results_bx2 rfl _ _ (w.heap.size + 1) (.string (bs m)) (.int .i64 (a : Int)) 25 rfl ((R5.out.set0 _).set1 _) Tryd.underlying25 (sizeBuf _)) rfl ?_
  exact ⟨rfl, (K5.out.setCell (p := ⟨w.heap.size + 1, 0, none⟩) (Nat.le_succ _) _).setCell (p := ⟨w.heap.size + 1, 1, none⟩) (Nat.le_succ _) _⟩
set_option maxHeartbeats 4000000 in
theorem cutT_ok (l : List UInt8) (n x y : Int) (hl : l.length ≤ 137438953472) (w : World) (hsp : Spans w) (hft : backL (mS l) x < backL (mS l) y) :
    Calls Tryd.prog 20 #[.agg #[.string (bs l), .int .i64 n], .int .i64 x, .int .i64 y] w fun e w' => e = .returned (.tuple #[.agg #[.string (bs (cutS (mS l) (backL (mS l) x) (backL (mS l) y))), .int .i64 (cutA (mS l) (mA l n) (backL (mS l) x) (backL (mS l) y) : Int)], .string (bs (goneS (mS l) (backL (mS l) x) (backL (mS l) y)))]) ∧ Below w.heap.size w w' := by
  have HM := Lib.hid (fun W h => make_calls l n hl W h)
  have ha := mA_le l n
  have hms := mS_len l
  have HB1 := Lib.hid (fun W h => back_calls (mS l) x (by omega) W h)
  have HB2 := Lib.hid (fun W h => back_calls (mS l) y (by omega) W h)
  have hf := backL_le (mS l) x
  have ht := backL_le (mS l) y
  generalize backL (mS l) x = f at *
  generalize backL (mS l) y = t at *
  generalize mA l n = a at *
  generalize mS l = m at *
  have hcl := cutS_length m f t (by omega) ht
  have hca := cutAt_le a f t (by omega) (by omega)
  have HB3 := Lib.hid (fun W h => back_calls (cutS m f t) ((cutAt a f t : Nat) : Int) (by omega) W h)
  have HcA : Hid (backL (cutS m f t) ((cutAt a f t : Nat) : Int) = cutA m a f t) := Lib.hid rfl
  rw [HcA.out] at HB3
  have hx1 := bs_take m f
  have hx2 := bs_drop m t
  have hx3 : (bs m).extract f t = bs (goneS m f t) := bs_mid m f t
  have hp1 : ∀ W : World, (Op.stringOp .add (bs (m.take f)) (bs (m.drop t))).run Tryd.prog W = .ok (.string (bs (cutS m f t))) W :=
    add_bs Tryd.prog (m.take f) (m.drop t) (by have := take_len_le m f; have := drop_len_le m t; omega)
  have HAt : Hid (cutAt a f t = if f < a then max f (a - (t - f)) else a) := Lib.hid rfl
  clear HcA
  generalize cutA m a f t = ca at *
  generalize cutS m f t = cS at *
  generalize goneS m f t = gS at *
  generalize m.take f = t1 at *
  generalize m.drop t = t2 at *
  generalize cutAt a f t = at' at *
  have hszm := bs_size m
  have hszc := bs_size cS
  have hi0 : (0 : Int) ≤ (f : Int) := by omega
  have hi1 : (f : Int) ≤ (m.length : Int) := by omega
  have hi2 : (0 : Int) ≤ (t : Int) := by omega
  have hi3 : (t : Int) ≤ (m.length : Int) := by omega
  have hi4 : (f : Int) ≤ (t : Int) := by omega
  have k0 : Below w.heap.size w ((w.alloc (.cells #[.string (bs l), .int .i64 n] 25)).alloc (.cells #[.string ⟨#[]⟩, .int .i64 0] 25)) := ((Below.refl _ w).alloc (Nat.le_refl _) _).alloc (by simp) _
  have b0 := (Bx.new w 25 (.string (bs l)) (.int .i64 n)).alloc (.cells #[.string ⟨#[]⟩, .int .i64 0] 25)
  have r0 := Bx.new (w.alloc (.cells #[.string (bs l), .int .i64 n] 25)) 25 (.string ⟨#[]⟩) (.int .i64 0)
  rw [World.size_alloc] at r0
  have c00 := b0.c0
  have c01 := b0.c1
  have Hsp := Lib.hid hsp
  have hd : decide ((t : Int) ≤ (f : Int)) = false := decide_eq_false (by omega)
  clear hsp
  go_enter Tryd.func20, Tryd.ntmps20
  go_wp2_with fail
  refine (HM.out _ (spans_below Hsp.out k0)).mono ?_
  rintro e w1 ⟨rfl, hb1⟩
  have k1 := k0.trans (hb1.mono k0.size)
  have b1 := b0.below hb1
  have r1 := r0.below hb1
  clear hb1 c00 c01 b0 r0 k0
  have c10 := b1.c0
  have c11 := b1.c1
  have f10 := b1.f0
  have f11 := b1.f1
  have b3 := (b1.set0 (.string (bs m))).set1 (.int .i64 (a : Int))
  have r3 := (r1.other (i := 0) (Nat.succ_ne_self _) (.string (bs m))).other (i := 1) (Nat.succ_ne_self _) (.int .i64 (a : Int))
  have k3 := (k1.setCell (p := ⟨w.heap.size, 0, none⟩) (Nat.le_refl _) (.string (bs m))).setCell (p := ⟨w.heap.size, 1, none⟩) (Nat.le_refl _) (.int .i64 (a : Int))
  have c30 := b3.c0
  have c31 := b3.c1
  go_wp2_with fail
  generalize (w1.setCell ⟨w.heap.size, 0, none⟩ (.string (bs m))).setCell ⟨w.heap.size, 1, none⟩ (.int .i64 (a : Int)) = W3 at *
  have K3 := Lib.hid k3.drew
  have B3 := Lib.hid b3.drew
  have R3 := Lib.hid r3.drew
  clear b3 r3 k3 b1 r1 k1 c10 c11 f10 f11
  refine wp_region_held_drew (S := (fun w' => w'.cell? ⟨w.heap.size, 0, none⟩ = some (.string (bs m)) ∧ w'.cell? ⟨w.heap.size, 1, none⟩ = some (.int .i64 (a : Int)))) (by kernel_rfl) ⟨c30, c31⟩ (fun hHeld => ?_)
  refine wpAnyH_take (i := 0) (oi := ⟨some 15, _, _, _, _, _⟩) (v := ?_) rfl (by kernel_rfl) (by kernel_rfl) (by kernel_rfl) (fun _ _ _ h => h) (Or.inl ⟨by kernel_rfl, ?hy0⟩) (by assumption) ?_
  case hy0 => (intro w' hSw; (try dsimp only at hSw); go_simp; try with_reducible rfl)
  simp only [Act.put, List.setIfInBounds_toArray, List.set_cons_zero, List.set_cons_succ]
  refine wpAnyH_take (i := 1) (oi := ⟨some 16, _, _, _, _, _⟩) (v := ?_) rfl (by kernel_rfl) (by kernel_rfl) (by kernel_rfl) (fun _ _ _ h => h) (Or.inl ⟨by kernel_rfl, ?hy1⟩) (by assumption) ?_
  case hy1 => (intro w' hSw; (try dsimp only at hSw); go_simp; try with_reducible rfl)
  simp only [Act.put, List.setIfInBounds_toArray, List.set_cons_zero, List.set_cons_succ]
  refine wpAnyH_take (i := 2) (oi := ⟨some 17, _, _, _, _, _⟩) (v := ?_) rfl (by kernel_rfl) (by kernel_rfl) (by kernel_rfl) (fun _ _ _ h => h) (Or.inl ⟨by kernel_rfl, ?hy2⟩) (by assumption) ?_
  case hy2 => (intro w' hSw; (try dsimp only at hSw); go_simp; try with_reducible rfl)
  simp only [Act.put, List.setIfInBounds_toArray, List.set_cons_zero, List.set_cons_succ]
  refine wpAnyH_take (i := 4) (oi := ⟨some 19, _, _, _, _, _⟩) (v := ?_) rfl (by kernel_rfl) (by kernel_rfl) (by kernel_rfl) (fun _ _ _ h => h) (Or.inl ⟨by kernel_rfl, ?hy4⟩) (by assumption) ?_
  case hy4 => (intro w' hSw; (try dsimp only at hSw); go_simp; try with_reducible rfl)
  simp only [Act.put, List.setIfInBounds_toArray, List.set_cons_zero, List.set_cons_succ]
  refine wpAnyH_take (i := 5) (oi := ⟨some 20, _, _, _, _, _⟩) (v := ?_) rfl (by kernel_rfl) (by kernel_rfl) (by kernel_rfl) (fun _ _ _ h => h) (Or.inl ⟨by kernel_rfl, ?hy5⟩) (by assumption) ?_
  case hy5 => (intro w' hSw; (try dsimp only at hSw); go_simp; try with_reducible rfl)
  simp only [Act.put, List.setIfInBounds_toArray, List.set_cons_zero, List.set_cons_succ]
  refine wpAnyH_take (i := 6) (oi := ⟨some 21, _, _, _, _, _⟩) (v := ?_) rfl (by kernel_rfl) (by kernel_rfl) (by kernel_rfl) (fun _ _ _ h => h) (Or.inl ⟨by kernel_rfl, ?hy6⟩) (by assumption) ?_
  case hy6 => (intro w' hSw; (try dsimp only at hSw); go_simp; try with_reducible rfl)
  simp only [Act.put, List.setIfInBounds_toArray, List.set_cons_zero, List.set_cons_succ]
  refine wpAnyH_ready (rs := [3]) (by kernel_rfl) (by simp) ?_
  refine AllReadyH.cons (o := ⟨some 18, _, _, _, _, _⟩) rfl (fun K hK => ?_) AllReadyH.nil
  (rw [if_pos (by kernel_rfl)])
  go_simp
  (refine (HB1.out _ (spans_below Hsp.out K3.out)).mono ?_; rintro e w4 ⟨rfl, hb4⟩; have k4 := K3.out.trans (hb4.mono K3.out.size); have b4 := B3.out.below hb4; have r4 := R3.out.below hb4; have c40 := b4.c0; have c41 := b4.c1)
  refine hK.out _ _ ⟨c40, c41⟩ (fun hHeld => ?_)
  clear hK K
  refine wpAnyH_ready (rs := [7]) (by kernel_rfl) (by simp) ?_
  refine AllReadyH.cons (o := ⟨some 22, _, _, _, _, _⟩) rfl (fun K hK => ?_) AllReadyH.nil
  (rw [if_pos (by kernel_rfl)])
  go_simp
  (refine (HB2.out _ (spans_below Hsp.out k4)).mono ?_; rintro e w5 ⟨rfl, hb5⟩; have k5 := k4.trans (hb5.mono k4.size); have b5 := b4.below hb5; have r5 := r4.below hb5; have c50 := b5.c0; have c51 := b5.c1)
  refine hK.out _ _ ⟨c50, c51⟩ (fun hHeld => ?_)
  clear hK K
  refine wpAnyH_take (i := 8) (oi := ⟨some 1, _, _, _, _, _⟩) (v := ?_) rfl (by kernel_rfl) (by kernel_rfl) (by kernel_rfl) (fun _ _ _ h => h) (Or.inl ⟨by kernel_rfl, ?hy8⟩) (by assumption) ?_
  case hy8 => (intro w' hSw; (try dsimp only at hSw); go_simp; try with_reducible rfl)
  simp only [Act.put, List.setIfInBounds_toArray, List.set_cons_zero, List.set_cons_succ]
  refine wpAnyH_take (i := 9) (oi := ⟨some 2, _, _, _, _, _⟩) (v := ?_) rfl (by kernel_rfl) (by kernel_rfl) (by kernel_rfl) (fun _ _ _ h => h) (Or.inl ⟨by kernel_rfl, ?hy9⟩) (by assumption) ?_
  case hy9 => (intro w' hSw; (try dsimp only at hSw); go_simp; try with_reducible rfl)
  simp only [Act.put, List.setIfInBounds_toArray, List.set_cons_zero, List.set_cons_succ]
  refine wpAnyH_done (by kernel_rfl) ?_ _
  have K5 := Lib.hid k5
  have R5 := Lib.hid r5
  have B5 := Lib.hid b5
  clear hHeld k4 b4 r4 c40 c41 hb4 hb5 k5 b5 r5 c30 c31
  go_wp2_with fail
  go_quiet (fail)
  have K6a := Lib.hid (bel_drewN K5.out nq)
  have B6a := Lib.hid (B5.out.drewN nq)
  have R6a := Lib.hid (R5.out.drewN nq)
  clear K5 B5 R5
  by_cases hfa : f < a
  · have hdf : decide ((f : Int) < (a : Int)) = true := decide_eq_true (by omega)
    have hw1 : IntKind.i64.wrap ((t : Int) - (f : Int)) = (t : Int) - (f : Int) := IntWalk.i64_in _ (by omega)
    have hw2 : IntKind.i64.wrap ((a : Int) - ((t : Int) - (f : Int))) = (a : Int) - ((t : Int) - (f : Int)) := IntWalk.i64_in _ (by omega)
    have hmx : max (f : Int) ((a : Int) - ((t : Int) - (f : Int))) = (at' : Int) := by rw [HAt.out, if_pos hfa]; omega
    go_wp2_with fail
    generalize w5.drewN nq = W6 at *
    have K6 := Lib.hid (K6a.out.drew)
    have B6 := Lib.hid (B6a.out.drew)
    have R6 := Lib.hid (R6a.out.drew)
    refine wp_region_held_drew (S := (fun w' => w'.cell? ⟨w.heap.size, 0, none⟩ = some (.string (bs m)) ∧ w'.cell? ⟨w.heap.size, 1, none⟩ = some (.int .i64 (a : Int)))) (by kernel_rfl) ⟨B6.out.c0, B6.out.c1⟩ (fun hHeld => ?_)
    refine wpAnyH_take (i := 0) (oi := ⟨some 48, _, _, _, _, _⟩) (v := ?_) rfl (by kernel_rfl) (by kernel_rfl) (by kernel_rfl) (fun _ _ _ h => h) (Or.inl ⟨by kernel_rfl, ?hy0⟩) (by assumption) ?_
    case hy0 => (intro w' hSw; (try dsimp only at hSw); go_simp; try with_reducible rfl)
    simp only [Act.put, List.setIfInBounds_toArray, List.set_cons_zero, List.set_cons_succ]
    refine wpAnyH_take (i := 1) (oi := ⟨some 49, _, _, _, _, _⟩) (v := ?_) rfl (by kernel_rfl) (by kernel_rfl) (by kernel_rfl) (fun _ _ _ h => h) (Or.inl ⟨by kernel_rfl, ?hy1⟩) (by assumption) ?_
    case hy1 => (intro w' hSw; (try dsimp only at hSw); go_simp; try with_reducible rfl)
    simp only [Act.put, List.setIfInBounds_toArray, List.set_cons_zero, List.set_cons_succ]
    refine wpAnyH_take (i := 2) (oi := ⟨some 50, _, _, _, _, _⟩) (v := ?_) rfl (by kernel_rfl) (by kernel_rfl) (by kernel_rfl) (fun _ _ _ h => h) (Or.inl ⟨by kernel_rfl, ?hy2⟩) (by assumption) ?_
    case hy2 => (intro w' hSw; (try dsimp only at hSw); go_simp; try with_reducible rfl)
    simp only [Act.put, List.setIfInBounds_toArray, List.set_cons_zero, List.set_cons_succ]
    refine wpAnyH_take (i := 5) (oi := ⟨some 53, _, _, _, _, _⟩) (v := ?_) rfl (by kernel_rfl) (by kernel_rfl) (by kernel_rfl) (fun _ _ _ h => h) (Or.inl ⟨by kernel_rfl, ?hy5⟩) (by assumption) ?_
    case hy5 => (intro w' hSw; (try dsimp only at hSw); go_simp; try with_reducible rfl)
    simp only [Act.put, List.setIfInBounds_toArray, List.set_cons_zero, List.set_cons_succ]
    refine wpAnyH_take (i := 6) (oi := ⟨some 54, _, _, _, _, _⟩) (v := ?_) rfl (by kernel_rfl) (by kernel_rfl) (by kernel_rfl) (fun _ _ _ h => h) (Or.inl ⟨by kernel_rfl, ?hy6⟩) (by assumption) ?_
    case hy6 => (intro w' hSw; (try dsimp only at hSw); go_simp; try with_reducible rfl)
    simp only [Act.put, List.setIfInBounds_toArray, List.set_cons_zero, List.set_cons_succ]
    refine wpAnyH_take (i := 7) (oi := ⟨some 55, _, _, _, _, _⟩) (v := ?_) rfl (by kernel_rfl) (by kernel_rfl) (by kernel_rfl) (fun _ _ _ h => h) (Or.inl ⟨by kernel_rfl, ?hy7⟩) (by assumption) ?_
    case hy7 => (intro w' hSw; (try dsimp only at hSw); go_simp; try with_reducible rfl)
    simp only [Act.put, List.setIfInBounds_toArray, List.set_cons_zero, List.set_cons_succ]
    refine wpAnyH_take (i := 8) (oi := ⟨some 56, _, _, _, _, _⟩) (v := ?_) rfl (by kernel_rfl) (by kernel_rfl) (by kernel_rfl) (fun _ _ _ h => h) (Or.inl ⟨by kernel_rfl, ?hy8⟩) (by assumption) ?_
    case hy8 => (intro w' hSw; (try dsimp only at hSw); go_simp; try with_reducible rfl)
    simp only [Act.put, List.setIfInBounds_toArray, List.set_cons_zero, List.set_cons_succ]
    refine wpAnyH_take (i := 9) (oi := ⟨some 57, _, _, _, _, _⟩) (v := ?_) rfl (by kernel_rfl) (by kernel_rfl) (by kernel_rfl) (fun _ _ _ h => h) (Or.inl ⟨by kernel_rfl, ?hy9⟩) (by assumption) ?_
    case hy9 => (intro w' hSw; (try dsimp only at hSw); go_simp; try with_reducible rfl)
    simp only [Act.put, List.setIfInBounds_toArray, List.set_cons_zero, List.set_cons_succ]
    refine wpAnyH_ready (rs := [3]) (by kernel_rfl) (by simp) ?_
    refine AllReadyH.cons (o := ⟨some 51, _, _, _, _, _⟩) rfl (fun K hK => ?_) AllReadyH.nil
    (rw [if_pos (by kernel_rfl)])
    go_simp
    (refine (HB3.out _ (spans_below Hsp.out K6.out)).mono ?_; rintro e w7 ⟨rfl, hb7⟩; have k7 := K6.out.trans (hb7.mono K6.out.size); have b7 := B6.out.below hb7; have r7 := R6.out.below hb7; have r70 := r7.c0; have r71 := r7.c1; have q70 := r7.f0; have q71 := r7.f1)
    refine hK.out _ _ ⟨b7.c0, b7.c1⟩ (fun hHeld => ?_)
    clear hK K
    refine wpAnyH_take (i := 4) (oi := ⟨some 52, _, _, _, _, _⟩) (v := ?_) rfl (by kernel_rfl) (by kernel_rfl) (by kernel_rfl) (fun _ _ _ h => h) (Or.inl ⟨by kernel_rfl, ?hy4⟩) (by assumption) ?_
    case hy4 => (intro w' hSw; (try dsimp only at hSw); go_simp; try with_reducible rfl)
    simp only [Act.put, List.setIfInBounds_toArray, List.set_cons_zero, List.set_cons_succ]
    refine wpAnyH_ready (rs := [10]) (by kernel_rfl) (by simp) ?_
    refine AllReadyH.cons (o := ⟨none, _, _, _, _, _⟩) rfl (fun K hK => ?_) AllReadyH.nil
    (rw [if_pos (by kernel_rfl)])
    go_simp
    refine hK.out _ _ ⟨((b7.other (i := 0) (Nat.ne_of_lt (Nat.lt_succ_self _)) _).other (i := 1) (Nat.ne_of_lt (Nat.lt_succ_self _)) _).c0, ((b7.other (i := 0) (Nat.ne_of_lt (Nat.lt_succ_self _)) _).other (i := 1) (Nat.ne_of_lt (Nat.lt_succ_self _)) _).c1⟩ (fun hHeld => ?_)
    clear hK K
    refine wpAnyH_take (i := 11) (oi := ⟨some 7, _, _, _, _, _⟩) (v := ?_) rfl (by kernel_rfl) (by kernel_rfl) (by kernel_rfl) (fun _ _ _ h => h) (Or.inl ⟨by kernel_rfl, ?hy11⟩) (by assumption) ?_
    case hy11 => (intro w' hSw; (try dsimp only at hSw); go_simp; try with_reducible rfl)
    simp only [Act.put, List.setIfInBounds_toArray, List.set_cons_zero, List.set_cons_succ]
    refine wpAnyH_done (by kernel_rfl) ?_ _
    have K7 := Lib.hid k7
    have R7 := Lib.hid r7
    go_wp2
    refine bodyPost_ret (results_bx2 rfl _ _ (w.heap.size + 1) (.string (bs cS)) (.int .i64 (ca : Int)) 25 rfl ((R7.out.set0 _).set1 _) Tryd.underlying25 (sizeBuf _)) rfl ?_
    exact ⟨rfl, (K7.out.setCell (p := ⟨w.heap.size + 1, 0, none⟩) (Nat.le_succ _) _).setCell (p := ⟨w.heap.size + 1, 1, none⟩) (Nat.le_succ _) _⟩
  · have hdf : decide ((f : Int) < (a : Int)) = false := decide_eq_false (by omega)
    obtain rfl : a = at' := by rw [HAt.out, if_neg hfa]
    go_wp2_with fail
    generalize w5.drewN nq = W6 at *
    have K6 := Lib.hid (K6a.out.drew)
    have B6 := Lib.hid (B6a.out.drew)
    have R6 := Lib.hid (R6a.out.drew)
    refine wp_region_held_drew (S := (fun w' => w'.cell? ⟨w.heap.size, 0, none⟩ = some (.string (bs m)) ∧ w'.cell? ⟨w.heap.size, 1, none⟩ = some (.int .i64 (a : Int)))) (by kernel_rfl) ⟨B6.out.c0, B6.out.c1⟩ (fun hHeld => ?_)
    refine wpAnyH_take (i := 0) (oi := ⟨some 48, _, _, _, _, _⟩) (v := ?_) rfl (by kernel_rfl) (by kernel_rfl) (by kernel_rfl) (fun _ _ _ h => h) (Or.inl ⟨by kernel_rfl, ?hy0⟩) (by assumption) ?_
    case hy0 => (intro w' hSw; (try dsimp only at hSw); go_simp; try with_reducible rfl)
    simp only [Act.put, List.setIfInBounds_toArray, List.set_cons_zero, List.set_cons_succ]
    refine wpAnyH_take (i := 1) (oi := ⟨some 49, _, _, _, _, _⟩) (v := ?_) rfl (by kernel_rfl) (by kernel_rfl) (by kernel_rfl) (fun _ _ _ h => h) (Or.inl ⟨by kernel_rfl, ?hy1⟩) (by assumption) ?_
    case hy1 => (intro w' hSw; (try dsimp only at hSw); go_simp; try with_reducible rfl)
    simp only [Act.put, List.setIfInBounds_toArray, List.set_cons_zero, List.set_cons_succ]
    refine wpAnyH_take (i := 2) (oi := ⟨some 50, _, _, _, _, _⟩) (v := ?_) rfl (by kernel_rfl) (by kernel_rfl) (by kernel_rfl) (fun _ _ _ h => h) (Or.inl ⟨by kernel_rfl, ?hy2⟩) (by assumption) ?_
    case hy2 => (intro w' hSw; (try dsimp only at hSw); go_simp; try with_reducible rfl)
    simp only [Act.put, List.setIfInBounds_toArray, List.set_cons_zero, List.set_cons_succ]
    refine wpAnyH_take (i := 5) (oi := ⟨some 53, _, _, _, _, _⟩) (v := ?_) rfl (by kernel_rfl) (by kernel_rfl) (by kernel_rfl) (fun _ _ _ h => h) (Or.inl ⟨by kernel_rfl, ?hy5⟩) (by assumption) ?_
    case hy5 => (intro w' hSw; (try dsimp only at hSw); go_simp; try with_reducible rfl)
    simp only [Act.put, List.setIfInBounds_toArray, List.set_cons_zero, List.set_cons_succ]
    refine wpAnyH_take (i := 6) (oi := ⟨some 54, _, _, _, _, _⟩) (v := ?_) rfl (by kernel_rfl) (by kernel_rfl) (by kernel_rfl) (fun _ _ _ h => h) (Or.inl ⟨by kernel_rfl, ?hy6⟩) (by assumption) ?_
    case hy6 => (intro w' hSw; (try dsimp only at hSw); go_simp; try with_reducible rfl)
    simp only [Act.put, List.setIfInBounds_toArray, List.set_cons_zero, List.set_cons_succ]
    refine wpAnyH_take (i := 7) (oi := ⟨some 55, _, _, _, _, _⟩) (v := ?_) rfl (by kernel_rfl) (by kernel_rfl) (by kernel_rfl) (fun _ _ _ h => h) (Or.inl ⟨by kernel_rfl, ?hy7⟩) (by assumption) ?_
    case hy7 => (intro w' hSw; (try dsimp only at hSw); go_simp; try with_reducible rfl)
    simp only [Act.put, List.setIfInBounds_toArray, List.set_cons_zero, List.set_cons_succ]
    refine wpAnyH_take (i := 8) (oi := ⟨some 56, _, _, _, _, _⟩) (v := ?_) rfl (by kernel_rfl) (by kernel_rfl) (by kernel_rfl) (fun _ _ _ h => h) (Or.inl ⟨by kernel_rfl, ?hy8⟩) (by assumption) ?_
    case hy8 => (intro w' hSw; (try dsimp only at hSw); go_simp; try with_reducible rfl)
    simp only [Act.put, List.setIfInBounds_toArray, List.set_cons_zero, List.set_cons_succ]
    refine wpAnyH_take (i := 9) (oi := ⟨some 57, _, _, _, _, _⟩) (v := ?_) rfl (by kernel_rfl) (by kernel_rfl) (by kernel_rfl) (fun _ _ _ h => h) (Or.inl ⟨by kernel_rfl, ?hy9⟩) (by assumption) ?_
    case hy9 => (intro w' hSw; (try dsimp only at hSw); go_simp; try with_reducible rfl)
    simp only [Act.put, List.setIfInBounds_toArray, List.set_cons_zero, List.set_cons_succ]
    refine wpAnyH_ready (rs := [3]) (by kernel_rfl) (by simp) ?_
    refine AllReadyH.cons (o := ⟨some 51, _, _, _, _, _⟩) rfl (fun K hK => ?_) AllReadyH.nil
    (rw [if_pos (by kernel_rfl)])
    go_simp
    (refine (HB3.out _ (spans_below Hsp.out K6.out)).mono ?_; rintro e w7 ⟨rfl, hb7⟩; have k7 := K6.out.trans (hb7.mono K6.out.size); have b7 := B6.out.below hb7; have r7 := R6.out.below hb7; have r70 := r7.c0; have r71 := r7.c1; have q70 := r7.f0; have q71 := r7.f1)
    refine hK.out _ _ ⟨b7.c0, b7.c1⟩ (fun hHeld => ?_)
    clear hK K
    refine wpAnyH_take (i := 4) (oi := ⟨some 52, _, _, _, _, _⟩) (v := ?_) rfl (by kernel_rfl) (by kernel_rfl) (by kernel_rfl) (fun _ _ _ h => h) (Or.inl ⟨by kernel_rfl, ?hy4⟩) (by assumption) ?_
    case hy4 => (intro w' hSw; (try dsimp only at hSw); go_simp; try with_reducible rfl)
    simp only [Act.put, List.setIfInBounds_toArray, List.set_cons_zero, List.set_cons_succ]
    refine wpAnyH_ready (rs := [10]) (by kernel_rfl) (by simp) ?_
    refine AllReadyH.cons (o := ⟨none, _, _, _, _, _⟩) rfl (fun K hK => ?_) AllReadyH.nil
    (rw [if_pos (by kernel_rfl)])
    go_simp
    refine hK.out _ _ ⟨((b7.other (i := 0) (Nat.ne_of_lt (Nat.lt_succ_self _)) _).other (i := 1) (Nat.ne_of_lt (Nat.lt_succ_self _)) _).c0, ((b7.other (i := 0) (Nat.ne_of_lt (Nat.lt_succ_self _)) _).other (i := 1) (Nat.ne_of_lt (Nat.lt_succ_self _)) _).c1⟩ (fun hHeld => ?_)
    clear hK K
    refine wpAnyH_take (i := 11) (oi := ⟨some 7, _, _, _, _, _⟩) (v := ?_) rfl (by kernel_rfl) (by kernel_rfl) (by kernel_rfl) (fun _ _ _ h => h) (Or.inl ⟨by kernel_rfl, ?hy11⟩) (by assumption) ?_
    case hy11 => (intro w' hSw; (try dsimp only at hSw); go_simp; try with_reducible rfl)
    simp only [Act.put, List.setIfInBounds_toArray, List.set_cons_zero, List.set_cons_succ]
    refine wpAnyH_done (by kernel_rfl) ?_ _
    have K7 := Lib.hid k7
    have R7 := Lib.hid r7
    go_wp2
    refine bodyPost_ret (results_bx2 rfl _ _ (w.heap.size + 1) (.string (bs cS)) (.int .i64 (ca : Int)) 25 rfl ((R7.out.set0 _).set1 _) Tryd.underlying25 (sizeBuf _)) rfl ?_
    exact ⟨rfl, (K7.out.setCell (p := ⟨w.heap.size + 1, 0, none⟩) (Nat.le_succ _) _).setCell (p := ⟨w.heap.size + 1, 1, none⟩) (Nat.le_succ _) _⟩

theorem cutT_calls (l : List UInt8) (n x y : Int) (hl : l.length ≤ 137438953472) (w : World) (hsp : Spans w) :
    Calls Tryd.prog 20 #[.agg #[.string (bs l), .int .i64 n], .int .i64 x, .int .i64 y] w fun e w' => e = .returned (.tuple #[.agg #[.string (bs (cutR (mS l) (mA l n) (backL (mS l) x) (backL (mS l) y)).1), .int .i64 ((cutR (mS l) (mA l n) (backL (mS l) x) (backL (mS l) y)).2.1 : Int)], .string (bs (cutR (mS l) (mA l n) (backL (mS l) x) (backL (mS l) y)).2.2)]) ∧ Below w.heap.size w w' := by
  unfold cutR
  by_cases h : backL (mS l) x < backL (mS l) y
  · rw [if_pos h]
    dsimp only
    exact cutT_ok l n x y hl w hsp h
  · rw [if_neg h]
    dsimp only
    rw [show bs [] = (⟨#[]⟩ : ByteArray) from rfl]
    exact cutT_no l n x y hl w hsp (by omega)
end Go.Proofs.YtifdgaklchihbaaDoor
