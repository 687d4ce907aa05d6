/-
  Layer 7 and what it stands on, part 22 (Makes Ins CutT).
-/
import Derived.Test.YtlmbafnoopfilaaGreatDoorPg16
import Derived.Test.YtlmbafnoopfilaaGreatDoorPg19
import Derived.Test.YtlmbafnoopfilaaGreatDoorPg20
import Derived.BigQuiet
import Derived.Deep.RegionWith
namespace Go.Proofs.YtlmbafnoopfilaaGreatDoor
section
open Go Go.RowKit
theorem bs_mid (l : List UInt8) (m n : Nat) : (bs l).extract m n = bs ((l.drop m).take (n - m)) := by
  rw [Lib.extract_eq]
set_option maxHeartbeats 2000000 in
theorem make_calls (l : List UInt8) (n : Int) (hl : l.length ≤ 137438953472) (w : World) (hsp : Spans w) :
    Calls Tryz.prog 17 #[.string (bs l), .int .i64 n] w fun e w' => e = .returned (.agg #[.string (bs (mS l)), .int .i64 (mA l n : Int)]) ∧ Below w.heap.size w w' := by
  have k0 : Below w.heap.size w (w.alloc (.cells #[.string ⟨#[]⟩, .int .i64 0] 36)) := (Below.refl _ w).alloc (Nat.le_refl _) _
  have hb0 := Bx.new w 36 (.string ⟨#[]⟩) (.int .i64 0)
  have HP := Lib.hid (fun W => plain_calls l hl W)
  have hpl := plain_length l
  have hbl := backL_le (plainL l) 600
  have hms := mS_len l
  have Hsp := Lib.hid hsp
  have HB1 := Lib.hid (fun W h => back_calls (plainL l) 600 (by omega) W h)
  have HB2 := Lib.hid (fun W h => back_calls (mS l) n (by omega) W h)
  have hex : (bs (plainL l)).extract 0 (backL (plainL l) 600) = bs (mS l) := bs_take _ _
  have HmA : Hid (backL (mS l) n = mA l n) := Lib.hid rfl
  have hsz := bs_size (plainL l)
  clear hsp
  generalize backL (mS l) n = a at *
  generalize mA l n = a' at *
  obtain rfl := HmA.out
  generalize backL (plainL l) 600 = b at *
  generalize mS l = m at *
  generalize plainL l = p at *
  go_enter Tryz.func17, Tryz.ntmps17
  go_wp2_with fail
  refine (HP.out _).mono ?_
  rintro e w1 ⟨rfl, hb1⟩
  have k1 := k0.trans (hb1.mono k0.size)
  have g1 := hb0.below hb1
  clear hb1
  go_wp2_with fail
  refine (HB1.out _ (spans_below Hsp.out k1)).mono ?_
  rintro e w2 ⟨rfl, hb2⟩
  have k2 := k1.trans (hb2.mono k1.size)
  have g2 := g1.below hb2
  clear hb2 g1 k1
  go_wp2_with fail
  refine (HB2.out _ (spans_below Hsp.out k2)).mono ?_
  rintro e w3 ⟨rfl, hb3⟩
  have k3 := k2.trans (hb3.mono k2.size)
  have g3 := g2.below hb3
  have c0 := g3.c0
  have c1 := g3.c1
  have f0 := g3.f0
  have f1 := g3.f1
  have G3 := Lib.hid g3
  have K3 := Lib.hid k3
  clear hb3 g2 k2 g3 k3
  go_wp2
  refine bodyPost_ret (results_bx rfl _ _ w.heap.size (.string (bs m)) (.int .i64 (a : Int)) 36 rfl ((G3.out.set0 _).set1 _) Tryz.underlying36 (sizeBuf _)) rfl ?_
  exact ⟨rfl, (K3.out.setCell (p := ⟨w.heap.size, 0, none⟩) (Nat.le_refl _) _).setCell (p := ⟨w.heap.size, 1, none⟩) (Nat.le_refl _) _⟩
theorem mS_short (l : List UInt8) (h : (plainL l).length ≤ 600) : mS l = plainL l := by
  unfold mS
  rw [backL_all _ 600 (by omega), List.take_length]
end
section
open Go Go.RowKit
theorem drop_len_le (l : List UInt8) (k : Nat) : (l.drop k).length ≤ l.length := by rw [List.length_drop]; omega
theorem take_len_le (l : List UInt8) (k : Nat) : (l.take k).length ≤ l.length := by rw [List.length_take]; omega
set_option maxHeartbeats 4000000 in
theorem insert_ok (l s : List UInt8) (n : Int) (hl : l.length ≤ 137438953472) (hs : s.length ≤ 137438953472) (w : World) (hsp : Spans w) (h6 : (mS l).length + (plainL s).length ≤ 600) :
    Calls Tryz.prog 21 #[.agg #[.string (bs l), .int .i64 n], .string (bs s)] w fun e w' => e = .returned (.tuple #[.agg #[.string (bs (insS (mS l) (mA l n) (plainL s))), .int .i64 (insA (mS l) (mA l n) (plainL s) : Int)], .int .i64 0]) ∧ Below w.heap.size w w' := by
  have HM := Lib.hid (fun W h => make_calls l n hl W h)
  have HP := Lib.hid (fun W => plain_calls s hs W)
  have ha := mA_le l n
  have hil := insS_length (mS l) (mA l n) (plainL s) ha
  have HO := Lib.hid (fun W h => on_calls (insS (mS l) (mA l n) (plainL s)) ((mA l n + (plainL s).length : Nat) : Int) (by omega) W h)
  have HiA : Hid (onL (insS (mS l) (mA l n) (plainL s)) ((mA l n + (plainL s).length : Nat) : Int) = insA (mS l) (mA l n) (plainL s)) := Lib.hid rfl
  have hx1 := bs_take (mS l) (mA l n)
  have hx2 := bs_drop (mS l) (mA l n)
  have hp1 := add_bs Tryz.prog ((mS l).take (mA l n)) (plainL s) (by have := take_len_le (mS l) (mA l n); omega)
  have hp2 : ∀ W : World, (Op.stringOp .add (bs ((mS l).take (mA l n) ++ plainL s)) (bs ((mS l).drop (mA l n)))).run Tryz.prog W = .ok (.string (bs (insS (mS l) (mA l n) (plainL s)))) W :=
    add_bs Tryz.prog ((mS l).take (mA l n) ++ plainL s) ((mS l).drop (mA l n)) (by have := take_len_le (mS l) (mA l n); have := drop_len_le (mS l) (mA l n); rw [List.length_append]; omega)
  rw [HiA.out] at HO
  clear HiA
  generalize insA (mS l) (mA l n) (plainL s) = x at *
  generalize insS (mS l) (mA l n) (plainL s) = whole at *
  generalize (mS l).take (mA l n) ++ plainL s = t3 at *
  generalize (mS l).take (mA l n) = t1 at *
  generalize (mS l).drop (mA l n) = t2 at *
  generalize mA l n = a at *
  generalize mS l = m at *
  generalize plainL s = p at *
  have hszm := bs_size m
  have hszp := bs_size p
  have k0 : Below w.heap.size w ((w.alloc (.cells #[.string (bs l), .int .i64 n] 36)).alloc (.cells #[.string ⟨#[]⟩, .int .i64 0] 36)) := ((Below.refl _ w).alloc (Nat.le_refl _) _).alloc (by simp) _
  have b0 := (Bx.new w 36 (.string (bs l)) (.int .i64 n)).alloc (.cells #[.string ⟨#[]⟩, .int .i64 0] 36)
  have r0 := Bx.new (w.alloc (.cells #[.string (bs l), .int .i64 n] 36)) 36 (.string ⟨#[]⟩) (.int .i64 0)
  rw [World.size_alloc] at r0
  have c00 := b0.c0
  have c01 := b0.c1
  have Hsp := Lib.hid hsp
  have hi0 : (0 : Int) ≤ (a : Int) := by omega
  have hi1 : (a : Int) ≤ (m.length : Int) := by omega
  have hw1 : IntKind.i64.wrap ((m.length : Int) + (p.length : Int)) = (m.length : Int) + (p.length : Int) := IntWalk.i64_in _ (by omega)
  have hw2 : IntKind.i64.wrap ((a : Int) + (p.length : Int)) = (a : Int) + (p.length : Int) := IntWalk.i64_in _ (by omega)
  have hd6 : decide ((600 : Int) < (m.length : Int) + (p.length : Int)) = false := decide_eq_false (by omega)
  have hcast : ((a + p.length : Nat) : Int) = (a : Int) + (p.length : Int) := by omega
  rw [hcast] at HO
  clear hsp hil hcast
  go_enter Tryz.func21, Tryz.ntmps21
  go_wp2_with fail
  refine (HM.out _ (spans_below Hsp.out k0)).mono ?_
  rintro e w1 ⟨rfl, hb1⟩
  have k1 := k0.trans (hb1.mono k0.size)
  have b1 := b0.below hb1
  have r1 := r0.below hb1
  clear hb1 c00 c01 b0 r0 k0
  go_wp2_with fail
  refine (HP.out _).mono ?_
  rintro e w2 ⟨rfl, hb2⟩
  have k2 := k1.trans (hb2.mono k1.size)
  have b2 := b1.below hb2
  have r2 := r1.below hb2
  clear hb2 b1 r1 k1
  have c20 := b2.c0
  have c21 := b2.c1
  have f20 := b2.f0
  have f21 := b2.f1
  have b3 := (b2.set0 (.string (bs m))).set1 (.int .i64 (a : Int))
  have r3 := (r2.other (i := 0) (Nat.succ_ne_self _) (.string (bs m))).other (i := 1) (Nat.succ_ne_self _) (.int .i64 (a : Int))
  have k3 := (k2.setCell (p := ⟨w.heap.size, 0, none⟩) (Nat.le_refl _) (.string (bs m))).setCell (p := ⟨w.heap.size, 1, none⟩) (Nat.le_refl _) (.int .i64 (a : Int))
  have c30 := b3.c0
  have c31 := b3.c1
  have K3 := Lib.hid k3
  have R3 := Lib.hid r3
  have B3 := Lib.hid b3
  clear b2 r2 k2 b3 r3 k3
  go_wp2_with fail
  go_quiet (fail)
  go_wp2_with fail
  refine (HO.out _ (spans_below Hsp.out (bel_drewN K3.out _))).mono ?_
  rintro e w5 ⟨rfl, hb5⟩
  have k5 := (bel_drewN K3.out nq).trans (hb5.mono (bel_drewN K3.out nq).size)
  have r5 := (R3.out.drewN nq).below hb5
  have c50 := r5.c0
  have c51 := r5.c1
  have f50 := r5.f0
  have f51 := r5.f1
  have K5 := Lib.hid k5
  have R5 := Lib.hid r5
  clear hb5 r5 k5
  go_wp2
  refine bodyPost_ret (results_bx2 rfl _ _ (w.heap.size + 1) (.string (bs whole)) (.int .i64 (x : Int)) 36 rfl ((R5.out.set0 _).set1 _) Tryz.underlying36 (sizeBuf _)) rfl ?_
  exact ⟨rfl, (K5.out.setCell (p := ⟨w.heap.size + 1, 0, none⟩) (Nat.le_succ _) _).setCell (p := ⟨w.heap.size + 1, 1, none⟩) (Nat.le_succ _) _⟩
set_option maxHeartbeats 4000000 in
theorem insert_no (l s : List UInt8) (n : Int) (hl : l.length ≤ 137438953472) (hs : s.length ≤ 137438953472) (w : World) (hsp : Spans w) (h6 : 600 < (mS l).length + (plainL s).length) :
    Calls Tryz.prog 21 #[.agg #[.string (bs l), .int .i64 n], .string (bs s)] w fun e w' => e = .returned (.tuple #[.agg #[.string (bs (mS l)), .int .i64 (mA l n : Int)], .int .i64 30]) ∧ Below w.heap.size w w' := by
  have HM := Lib.hid (fun W h => make_calls l n hl W h)
  have HP := Lib.hid (fun W => plain_calls s hs W)
  have ha := mA_le l n
  have hms := mS_len l
  have hpl := plain_length s
  generalize mA l n = a at *
  generalize mS l = m at *
  generalize plainL s = p at *
  have hszm := bs_size m
  have hszp := bs_size p
  have k0 : Below w.heap.size w ((w.alloc (.cells #[.string (bs l), .int .i64 n] 36)).alloc (.cells #[.string ⟨#[]⟩, .int .i64 0] 36)) := ((Below.refl _ w).alloc (Nat.le_refl _) _).alloc (by simp) _
  have b0 := (Bx.new w 36 (.string (bs l)) (.int .i64 n)).alloc (.cells #[.string ⟨#[]⟩, .int .i64 0] 36)
  have r0 := Bx.new (w.alloc (.cells #[.string (bs l), .int .i64 n] 36)) 36 (.string ⟨#[]⟩) (.int .i64 0)
  rw [World.size_alloc] at r0
  have c00 := b0.c0
  have c01 := b0.c1
  have Hsp := Lib.hid hsp
  have hw1 : IntKind.i64.wrap ((m.length : Int) + (p.length : Int)) = (m.length : Int) + (p.length : Int) := IntWalk.i64_in _ (by omega)
  have hd6 : decide ((600 : Int) < (m.length : Int) + (p.length : Int)) = true := decide_eq_true (by omega)
  clear hsp
  go_enter Tryz.func21, Tryz.ntmps21
  go_wp2_with fail
  refine (HM.out _ (spans_below Hsp.out k0)).mono ?_
  rintro e w1 ⟨rfl, hb1⟩
  have k1 := k0.trans (hb1.mono k0.size)
  have b1 := b0.below hb1
  have r1 := r0.below hb1
  clear hb1 c00 c01 b0 r0 k0
  go_wp2_with fail
  refine (HP.out _).mono ?_
  rintro e w2 ⟨rfl, hb2⟩
  have k2 := k1.trans (hb2.mono k1.size)
  have b2 := b1.below hb2
  have r2 := r1.below hb2
  clear hb2 b1 r1 k1
  have c20 := b2.c0
  have c21 := b2.c1
  have f20 := b2.f0
  have f21 := b2.f1
  have b3 := (b2.set0 (.string (bs m))).set1 (.int .i64 (a : Int))
  have r3 := (r2.other (i := 0) (Nat.succ_ne_self _) (.string (bs m))).other (i := 1) (Nat.succ_ne_self _) (.int .i64 (a : Int))
  have k3 := (k2.setCell (p := ⟨w.heap.size, 0, none⟩) (Nat.le_refl _) (.string (bs m))).setCell (p := ⟨w.heap.size, 1, none⟩) (Nat.le_refl _) (.int .i64 (a : Int))
  have c30 := b3.c0
  have c31 := b3.c1
  have K3 := Lib.hid k3
  have R3 := Lib.hid r3
  have B3 := Lib.hid b3
  clear b2 r2 k2 b3 r3 k3
  have r30 := R3.out.c0
  have r31 := R3.out.c1
  have q30 := R3.out.f0
  have q31 := R3.out.f1
  go_wp2
  refine bodyPost_ret (results_bx2 rfl _ _ (w.heap.size + 1) (.string (bs m)) (.int .i64 (a : Int)) 36 rfl ((R3.out.set0 _).set1 _) Tryz.underlying36 (sizeBuf _)) rfl ?_
  exact ⟨rfl, (K3.out.setCell (p := ⟨w.heap.size + 1, 0, none⟩) (Nat.le_succ _) _).setCell (p := ⟨w.heap.size + 1, 1, none⟩) (Nat.le_succ _) _⟩
end
section
open Go Go.RowKit
/-- What text.Cut answers: the text, the place, what is gone. -/
theorem cutAt_le (a f t : Nat) (ha : a ≤ 600) (hf : f ≤ 600) : cutAt a f t ≤ 600 := by unfold cutAt; split <;> omega
set_option maxHeartbeats 4000000 in
theorem cutT_no (l : List UInt8) (n x y : Int) (hl : l.length ≤ 137438953472) (w : World) (hsp : Spans w) (hft : backL (mS l) y ≤ backL (mS l) x) :
    Calls Tryz.prog 20 #[.agg #[.string (bs l), .int .i64 n], .int .i64 x, .int .i64 y] w fun e w' => e = .returned (.tuple #[.agg #[.string (bs (mS l)), .int .i64 (mA l n : Int)], .string ⟨#[]⟩]) ∧ Below w.heap.size w w' := by
  have HM := Lib.hid (fun W h => make_calls l n hl W h)
  have ha := mA_le l n
  have hms := mS_len l
  have HB1 := Lib.hid (fun W h => back_calls (mS l) x (by omega) W h)
  have HB2 := Lib.hid (fun W h => back_calls (mS l) y (by omega) W h)
  have hf := backL_le (mS l) x
  have ht := backL_le (mS l) y
  generalize backL (mS l) x = f at *
  generalize backL (mS l) y = t at *
  generalize mA l n = a at *
  generalize mS l = m at *
  have k0 : Below w.heap.size w ((w.alloc (.cells #[.string (bs l), .int .i64 n] 36)).alloc (.cells #[.string ⟨#[]⟩, .int .i64 0] 36)) := ((Below.refl _ w).alloc (Nat.le_refl _) _).alloc (by simp) _
  have b0 := (Bx.new w 36 (.string (bs l)) (.int .i64 n)).alloc (.cells #[.string ⟨#[]⟩, .int .i64 0] 36)
  have r0 := Bx.new (w.alloc (.cells #[.string (bs l), .int .i64 n] 36)) 36 (.string ⟨#[]⟩) (.int .i64 0)
  rw [World.size_alloc] at r0
  have c00 := b0.c0
  have c01 := b0.c1
  have Hsp := Lib.hid hsp
  have hd : decide ((t : Int) ≤ (f : Int)) = true := decide_eq_true (by omega)
  clear hsp
  go_enter Tryz.func20, Tryz.ntmps20
  go_wp2_with fail
  refine (HM.out _ (spans_below Hsp.out k0)).mono ?_
  rintro e w1 ⟨rfl, hb1⟩
  have k1 := k0.trans (hb1.mono k0.size)
  have b1 := b0.below hb1
  have r1 := r0.below hb1
  clear hb1 c00 c01 b0 r0 k0
  have c10 := b1.c0
  have c11 := b1.c1
  have f10 := b1.f0
  have f11 := b1.f1
  have b3 := (b1.set0 (.string (bs m))).set1 (.int .i64 (a : Int))
  have r3 := (r1.other (i := 0) (Nat.succ_ne_self _) (.string (bs m))).other (i := 1) (Nat.succ_ne_self _) (.int .i64 (a : Int))
  have k3 := (k1.setCell (p := ⟨w.heap.size, 0, none⟩) (Nat.le_refl _) (.string (bs m))).setCell (p := ⟨w.heap.size, 1, none⟩) (Nat.le_refl _) (.int .i64 (a : Int))
  have c30 := b3.c0
  have c31 := b3.c1
  go_wp2_with fail
  generalize (w1.setCell ⟨w.heap.size, 0, none⟩ (.string (bs m))).setCell ⟨w.heap.size, 1, none⟩ (.int .i64 (a : Int)) = W3 at *
  have K3 := Lib.hid k3.drew
  have B3 := Lib.hid b3.drew
  have R3 := Lib.hid r3.drew
  clear b3 r3 k3 b1 r1 k1 c10 c11 f10 f11
  refine wp_region_held_drew (S := (fun w' => w'.cell? ⟨w.heap.size, 0, none⟩ = some (.string (bs m)) ∧ w'.cell? ⟨w.heap.size, 1, none⟩ = some (.int .i64 (a : Int)))) (by kernel_rfl) ⟨c30, c31⟩ (fun hHeld => ?_)
  refine wpAnyH_take (i := 0) (oi := ⟨some 15, _, _, _, _, _⟩) (v := ?_) rfl (by kernel_rfl) (by kernel_rfl) (by kernel_rfl) (fun _ _ _ h => h) (Or.inl ⟨by kernel_rfl, ?hy0⟩) (by assumption) ?_
  case hy0 => (intro w' hSw; (try dsimp only at hSw); go_simp; try with_reducible rfl)
  simp only [Act.put, List.setIfInBounds_toArray, List.set_cons_zero, List.set_cons_succ]
  refine wpAnyH_take (i := 1) (oi := ⟨some 16, _, _, _, _, _⟩) (v := ?_) rfl (by kernel_rfl) (by kernel_rfl) (by kernel_rfl) (fun _ _ _ h => h) (Or.inl ⟨by kernel_rfl, ?hy1⟩) (by assumption) ?_
  case hy1 => (intro w' hSw; (try dsimp only at hSw); go_simp; try with_reducible rfl)
  simp only [Act.put, List.setIfInBounds_toArray, List.set_cons_zero, List.set_cons_succ]
  refine wpAnyH_take (i := 2) (oi := ⟨some 17, _, _, _, _, _⟩) (v := ?_) rfl (by kernel_rfl) (by kernel_rfl) (by kernel_rfl) (fun _ _ _ h => h) (Or.inl ⟨by kernel_rfl, ?hy2⟩) (by assumption) ?_
  case hy2 => (intro w' hSw; (try dsimp only at hSw); go_simp; try with_reducible rfl)
  simp only [Act.put, List.setIfInBounds_toArray, List.set_cons_zero, List.set_cons_succ]
  refine wpAnyH_take (i := 4) (oi := ⟨some 19, _, _, _, _, _⟩) (v := ?_) rfl (by kernel_rfl) (by kernel_rfl) (by kernel_rfl) (fun _ _ _ h => h) (Or.inl ⟨by kernel_rfl, ?hy4⟩) (by assumption) ?_
  case hy4 => (intro w' hSw; (try dsimp only at hSw); go_simp; try with_reducible rfl)
  simp only [Act.put, List.setIfInBounds_toArray, List.set_cons_zero, List.set_cons_succ]
  refine wpAnyH_take (i := 5) (oi := ⟨some 20, _, _, _, _, _⟩) (v := ?_) rfl (by kernel_rfl) (by kernel_rfl) (by kernel_rfl) (fun _ _ _ h => h) (Or.inl ⟨by kernel_rfl, ?hy5⟩) (by assumption) ?_
  case hy5 => (intro w' hSw; (try dsimp only at hSw); go_simp; try with_reducible rfl)
  simp only [Act.put, List.setIfInBounds_toArray, List.set_cons_zero, List.set_cons_succ]
  refine wpAnyH_take (i := 6) (oi := ⟨some 21, _, _, _, _, _⟩) (v := ?_) rfl (by kernel_rfl) (by kernel_rfl) (by kernel_rfl) (fun _ _ _ h => h) (Or.inl ⟨by kernel_rfl, ?hy6⟩) (by assumption) ?_
  case hy6 => (intro w' hSw; (try dsimp only at hSw); go_simp; try with_reducible rfl)
  simp only [Act.put, List.setIfInBounds_toArray, List.set_cons_zero, List.set_cons_succ]
  refine wpAnyH_ready (rs := [3]) (by kernel_rfl) (by simp) ?_
  refine AllReadyH.cons (o := ⟨some 18, _, _, _, _, _⟩) rfl (fun K hK => ?_) AllReadyH.nil
  (rw [if_pos (by kernel_rfl)])
  go_simp
  (refine (HB1.out _ (spans_below Hsp.out K3.out)).mono ?_; rintro e w4 ⟨rfl, hb4⟩; have k4 := K3.out.trans (hb4.mono K3.out.size); have b4 := B3.out.below hb4; have r4 := R3.out.below hb4; have c40 := b4.c0; have c41 := b4.c1)
  refine hK.out _ _ ⟨c40, c41⟩ (fun hHeld => ?_)
  clear hK K
  refine wpAnyH_ready (rs := [7]) (by kernel_rfl) (by simp) ?_
  refine AllReadyH.cons (o := ⟨some 22, _, _, _, _, _⟩) rfl (fun K hK => ?_) AllReadyH.nil
  (rw [if_pos (by kernel_rfl)])
  go_simp
  (refine (HB2.out _ (spans_below Hsp.out k4)).mono ?_; rintro e w5 ⟨rfl, hb5⟩; have k5 := k4.trans (hb5.mono k4.size); have b5 := b4.below hb5; have r5 := r4.below hb5; have c50 := b5.c0; have c51 := b5.c1)
  refine hK.out _ _ ⟨c50, c51⟩ (fun hHeld => ?_)
  clear hK K
  refine wpAnyH_take (i := 8) (oi := ⟨some 1, _, _, _, _, _⟩) (v := ?_) rfl (by kernel_rfl) (by kernel_rfl) (by kernel_rfl) (fun _ _ _ h => h) (Or.inl ⟨by kernel_rfl, ?hy8⟩) (by assumption) ?_
  case hy8 => (intro w' hSw; (try dsimp only at hSw); go_simp; try with_reducible rfl)
  simp only [Act.put, List.setIfInBounds_toArray, List.set_cons_zero, List.set_cons_succ]
  refine wpAnyH_take (i := 9) (oi := ⟨some 2, _, _, _, _, _⟩) (v := ?_) rfl (by kernel_rfl) (by kernel_rfl) (by kernel_rfl) (fun _ _ _ h => h) (Or.inl ⟨by kernel_rfl, ?hy9⟩) (by assumption) ?_
  case hy9 => (intro w' hSw; (try dsimp only at hSw); go_simp; try with_reducible rfl)
  simp only [Act.put, List.setIfInBounds_toArray, List.set_cons_zero, List.set_cons_succ]
  refine wpAnyH_done (by kernel_rfl) ?_ _
  have K5 := Lib.hid k5
  have R5 := Lib.hid r5
  have r50 := r5.c0
  have r51 := r5.c1
  have q50 := r5.f0
  have q51 := r5.f1
  clear hHeld k4 b4 r4 c40 c41 hb4 hb5 k5 b5 r5 c30 c31
  go_wp2
  refine bodyPost_ret (results_bx2 rfl _ _ (w.heap.size + 1) (.string (bs m)) (.int .i64 (a : Int)) 36 rfl ((R5.out.set0 _).set1 _) Tryz.underlying36 (sizeBuf _)) rfl ?_
  exact ⟨rfl, (K5.out.setCell (p := ⟨w.heap.size + 1, 0, none⟩) (Nat.le_succ _) _).setCell (p := ⟨w.heap.size + 1, 1, none⟩) (Nat.le_succ _) _⟩
set_option maxHeartbeats 4000000 in
theorem cutT_ok (l : List UInt8) (n x y : Int) (hl : l.length ≤ 137438953472) (w : World) (hsp : Spans w) (hft : backL (mS l) x < backL (mS l) y) :
    Calls Tryz.prog 20 #[.agg #[.string (bs l), .int .i64 n], .int .i64 x, .int .i64 y] w fun e w' => e = .returned (.tuple #[.agg #[.string (bs (cutS (mS l) (backL (mS l) x) (backL (mS l) y))), .int .i64 (cutA (mS l) (mA l n) (backL (mS l) x) (backL (mS l) y) : Int)], .string (bs (goneS (mS l) (backL (mS l) x) (backL (mS l) y)))]) ∧ Below w.heap.size w w' := by
  have HM := Lib.hid (fun W h => make_calls l n hl W h)
  have ha := mA_le l n
  have hms := mS_len l
  have HB1 := Lib.hid (fun W h => back_calls (mS l) x (by omega) W h)
  have HB2 := Lib.hid (fun W h => back_calls (mS l) y (by omega) W h)
  have hf := backL_le (mS l) x
  have ht := backL_le (mS l) y
  generalize backL (mS l) x = f at *
  generalize backL (mS l) y = t at *
  generalize mA l n = a at *
  generalize mS l = m at *
  have hcl := cutS_length m f t (by omega) ht
  have hca := cutAt_le a f t (by omega) (by omega)
  have HB3 := Lib.hid (fun W h => back_calls (cutS m f t) ((cutAt a f t : Nat) : Int) (by omega) W h)
  have HcA : Hid (backL (cutS m f t) ((cutAt a f t : Nat) : Int) = cutA m a f t) := Lib.hid rfl
  rw [HcA.out] at HB3
  have hx1 := bs_take m f
  have hx2 := bs_drop m t
  have hx3 : (bs m).extract f t = bs (goneS m f t) := bs_mid m f t
  have hp1 : ∀ W : World, (Op.stringOp .add (bs (m.take f)) (bs (m.drop t))).run Tryz.prog W = .ok (.string (bs (cutS m f t))) W :=
    add_bs Tryz.prog (m.take f) (m.drop t) (by have := take_len_le m f; have := drop_len_le m t; omega)
  have HAt : Hid (cutAt a f t = if f < a then max f (a - (t - f)) else a) := Lib.hid rfl
  clear HcA
  generalize cutA m a f t = ca at *
  generalize cutS m f t = cS at *
  generalize goneS m f t = gS at *
  generalize m.take f = t1 at *
  generalize m.drop t = t2 at *
  generalize cutAt a f t = at' at *
  have hszm := bs_size m
  have hszc := bs_size cS
  have hi0 : (0 : Int) ≤ (f : Int) := by omega
  have hi1 : (f : Int) ≤ (m.length : Int) := by omega
  have hi2 : (0 : Int) ≤ (t : Int) := by omega
  have hi3 : (t : Int) ≤ (m.length : Int) := by omega
  have hi4 : (f : Int) ≤ (t : Int) := by omega
  have k0 : Below w.heap.size w ((w.alloc (.cells #[.string (bs l), .int .i64 n] 36)).alloc (.cells #[.string ⟨#[]⟩, .int .i64 0] 36)) := ((Below.refl _ w).alloc (Nat.le_refl _) _).alloc (by simp) _
  have b0 := (Bx.new w 36 (.string (bs l)) (.int .i64 n)).alloc (.cells #[.string ⟨#[]⟩, .int .i64 0] 36)
  have r0 := Bx.new (w.alloc (.cells #[.string (bs l), .int .i64 n] 36)) 36 (.string ⟨#[]⟩) (.int .i64 0)
  rw [World.size_alloc] at r0
  have c00 := b0.c0
  have c01 := b0.c1
  have Hsp := Lib.hid hsp
  have hd : decide ((t : Int) ≤ (f : Int)) = false := decide_eq_false (by omega)
  clear hsp
  go_enter Tryz.func20, Tryz.ntmps20
  go_wp2_with fail
  refine (HM.out _ (spans_below Hsp.out k0)).mono ?_
  rintro e w1 ⟨rfl, hb1⟩
  have k1 := k0.trans (hb1.mono k0.size)
  have b1 := b0.below hb1
  have r1 := r0.below hb1
  clear hb1 c00 c01 b0 r0 k0
  have c10 := b1.c0
  have c11 := b1.c1
  have f10 := b1.f0
  have f11 := b1.f1
  have b3 := (b1.set0 (.string (bs m))).set1 (.int .i64 (a : Int))
  have r3 := (r1.other (i := 0) (Nat.succ_ne_self _) (.string (bs m))).other (i := 1) (Nat.succ_ne_self _) (.int .i64 (a : Int))
  have k3 := (k1.setCell (p := ⟨w.heap.size, 0, none⟩) (Nat.le_refl _) (.string (bs m))).setCell (p := ⟨w.heap.size, 1, none⟩) (Nat.le_refl _) (.int .i64 (a : Int))
  have c30 := b3.c0
  have c31 := b3.c1
  go_wp2_with fail
  generalize (w1.setCell ⟨w.heap.size, 0, none⟩ (.string (bs m))).setCell ⟨w.heap.size, 1, none⟩ (.int .i64 (a : Int)) = W3 at *
  have K3 := Lib.hid k3.drew
  have B3 := Lib.hid b3.drew
  have R3 := Lib.hid r3.drew
  clear b3 r3 k3 b1 r1 k1 c10 c11 f10 f11
  refine wp_region_held_drew (S := (fun w' => w'.cell? ⟨w.heap.size, 0, none⟩ = some (.string (bs m)) ∧ w'.cell? ⟨w.heap.size, 1, none⟩ = some (.int .i64 (a : Int)))) (by kernel_rfl) ⟨c30, c31⟩ (fun hHeld => ?_)
  refine wpAnyH_take (i := 0) (oi := ⟨some 15, _, _, _, _, _⟩) (v := ?_) rfl (by kernel_rfl) (by kernel_rfl) (by kernel_rfl) (fun _ _ _ h => h) (Or.inl ⟨by kernel_rfl, ?hy0⟩) (by assumption) ?_
  case hy0 => (intro w' hSw; (try dsimp only at hSw); go_simp; try with_reducible rfl)
  simp only [Act.put, List.setIfInBounds_toArray, List.set_cons_zero, List.set_cons_succ]
  refine wpAnyH_take (i := 1) (oi := ⟨some 16, _, _, _, _, _⟩) (v := ?_) rfl (by kernel_rfl) (by kernel_rfl) (by kernel_rfl) (fun _ _ _ h => h) (Or.inl ⟨by kernel_rfl, ?hy1⟩) (by assumption) ?_
  case hy1 => (intro w' hSw; (try dsimp only at hSw); go_simp; try with_reducible rfl)
  simp only [Act.put, List.setIfInBounds_toArray, List.set_cons_zero, List.set_cons_succ]
  refine wpAnyH_take (i := 2) (oi := ⟨some 17, _, _, _, _, _⟩) (v := ?_) rfl (by kernel_rfl) (by kernel_rfl) (by kernel_rfl) (fun _ _ _ h => h) (Or.inl ⟨by kernel_rfl, ?hy2⟩) (by assumption) ?_
  case hy2 => (intro w' hSw; (try dsimp only at hSw); go_simp; try with_reducible rfl)
  simp only [Act.put, List.setIfInBounds_toArray, List.set_cons_zero, List.set_cons_succ]
  refine wpAnyH_take (i := 4) (oi := ⟨some 19, _, _, _, _, _⟩) (v := ?_) rfl (by kernel_rfl) (by kernel_rfl) (by kernel_rfl) (fun _ _ _ h => h) (Or.inl ⟨by kernel_rfl, ?hy4⟩) (by assumption) ?_
  case hy4 => (intro w' hSw; (try dsimp only at hSw); go_simp; try with_reducible rfl)
  simp only [Act.put, List.setIfInBounds_toArray, List.set_cons_zero, List.set_cons_succ]
  refine wpAnyH_take (i := 5) (oi := ⟨some 20, _, _, _, _, _⟩) (v := ?_) rfl (by kernel_rfl) (by kernel_rfl) (by kernel_rfl) (fun _ _ _ h => h) (Or.inl ⟨by kernel_rfl, ?hy5⟩) (by assumption) ?_
  case hy5 => (intro w' hSw; (try dsimp only at hSw); go_simp; try with_reducible rfl)
  simp only [Act.put, List.setIfInBounds_toArray, List.set_cons_zero, List.set_cons_succ]
  refine wpAnyH_take (i := 6) (oi := ⟨some 21, _, _, _, _, _⟩) (v := ?_) rfl (by kernel_rfl) (by kernel_rfl) (by kernel_rfl) (fun _ _ _ h => h) (Or.inl ⟨by kernel_rfl, ?hy6⟩) (by assumption) ?_
  case hy6 => (intro w' hSw; (try dsimp only at hSw); go_simp; try with_reducible rfl)
  simp only [Act.put, List.setIfInBounds_toArray, List.set_cons_zero, List.set_cons_succ]
  refine wpAnyH_ready (rs := [3]) (by kernel_rfl) (by simp) ?_
  refine AllReadyH.cons (o := ⟨some 18, _, _, _, _, _⟩) rfl (fun K hK => ?_) AllReadyH.nil
  (rw [if_pos (by kernel_rfl)])
  go_simp
  (refine (HB1.out _ (spans_below Hsp.out K3.out)).mono ?_; rintro e w4 ⟨rfl, hb4⟩; have k4 := K3.out.trans (hb4.mono K3.out.size); have b4 := B3.out.below hb4; have r4 := R3.out.below hb4; have c40 := b4.c0; have c41 := b4.c1)
  refine hK.out _ _ ⟨c40, c41⟩ (fun hHeld => ?_)
  clear hK K
  refine wpAnyH_ready (rs := [7]) (by kernel_rfl) (by simp) ?_
  refine AllReadyH.cons (o := ⟨some 22, _, _, _, _, _⟩) rfl (fun K hK => ?_) AllReadyH.nil
  (rw [if_pos (by kernel_rfl)])
  go_simp
  (refine (HB2.out _ (spans_below Hsp.out k4)).mono ?_; rintro e w5 ⟨rfl, hb5⟩; have k5 := k4.trans (hb5.mono k4.size); have b5 := b4.below hb5; have r5 := r4.below hb5; have c50 := b5.c0; have c51 := b5.c1)
  refine hK.out _ _ ⟨c50, c51⟩ (fun hHeld => ?_)
  clear hK K
  refine wpAnyH_take (i := 8) (oi := ⟨some 1, _, _, _, _, _⟩) (v := ?_) rfl (by kernel_rfl) (by kernel_rfl) (by kernel_rfl) (fun _ _ _ h => h) (Or.inl ⟨by kernel_rfl, ?hy8⟩) (by assumption) ?_
  case hy8 => (intro w' hSw; (try dsimp only at hSw); go_simp; try with_reducible rfl)
  simp only [Act.put, List.setIfInBounds_toArray, List.set_cons_zero, List.set_cons_succ]
  refine wpAnyH_take (i := 9) (oi := ⟨some 2, _, _, _, _, _⟩) (v := ?_) rfl (by kernel_rfl) (by kernel_rfl) (by kernel_rfl) (fun _ _ _ h => h) (Or.inl ⟨by kernel_rfl, ?hy9⟩) (by assumption) ?_
  case hy9 => (intro w' hSw; (try dsimp only at hSw); go_simp; try with_reducible rfl)
  simp only [Act.put, List.setIfInBounds_toArray, List.set_cons_zero, List.set_cons_succ]
  refine wpAnyH_done (by kernel_rfl) ?_ _
  have K5 := Lib.hid k5
  have R5 := Lib.hid r5
  have B5 := Lib.hid b5
  clear hHeld k4 b4 r4 c40 c41 hb4 hb5 k5 b5 r5 c30 c31
  go_wp2_with fail
  go_quiet (fail)
  have K6a := Lib.hid (bel_drewN K5.out nq)
  have B6a := Lib.hid (B5.out.drewN nq)
  have R6a := Lib.hid (R5.out.drewN nq)
  clear K5 B5 R5
  by_cases hfa : f < a
  · have hdf : decide ((f : Int) < (a : Int)) = true := decide_eq_true (by omega)
    have hw1 : IntKind.i64.wrap ((t : Int) - (f : Int)) = (t : Int) - (f : Int) := IntWalk.i64_in _ (by omega)
    have hw2 : IntKind.i64.wrap ((a : Int) - ((t : Int) - (f : Int))) = (a : Int) - ((t : Int) - (f : Int)) := IntWalk.i64_in _ (by omega)
    have hmx : max (f : Int) ((a : Int) - ((t : Int) - (f : Int))) = (at' : Int) := by rw [HAt.out, if_pos hfa]; omega
    go_wp2_with fail
    generalize w5.drewN nq = W6 at *
    have K6 := Lib.hid (K6a.out.drew)
    have B6 := Lib.hid (B6a.out.drew)
    have R6 := Lib.hid (R6a.out.drew)
    refine wp_region_held_drew (S := (fun w' => w'.cell? ⟨w.heap.size, 0, none⟩ = some (.string (bs m)) ∧ w'.cell? ⟨w.heap.size, 1, none⟩ = some (.int .i64 (a : Int)))) (by kernel_rfl) ⟨B6.out.c0, B6.out.c1⟩ (fun hHeld => ?_)
    refine wpAnyH_take (i := 0) (oi := ⟨some 48, _, _, _, _, _⟩) (v := ?_) rfl (by kernel_rfl) (by kernel_rfl) (by kernel_rfl) (fun _ _ _ h => h) (Or.inl ⟨by kernel_rfl, ?hy0⟩) (by assumption) ?_
    case hy0 => (intro w' hSw; (try dsimp only at hSw); go_simp; try with_reducible rfl)
    simp only [Act.put, List.setIfInBounds_toArray, List.set_cons_zero, List.set_cons_succ]
    refine wpAnyH_take (i := 1) (oi := ⟨some 49, _, _, _, _, _⟩) (v := ?_) rfl (by kernel_rfl) (by kernel_rfl) (by kernel_rfl) (fun _ _ _ h => h) (Or.inl ⟨by kernel_rfl, ?hy1⟩) (by assumption) ?_
    case hy1 => (intro w' hSw; (try dsimp only at hSw); go_simp; try with_reducible rfl)
    simp only [Act.put, List.setIfInBounds_toArray, List.set_cons_zero, List.set_cons_succ]
    refine wpAnyH_take (i := 2) (oi := ⟨some 50, _, _, _, _, _⟩) (v := ?_) rfl (by kernel_rfl) (by kernel_rfl) (by kernel_rfl) (fun _ _ _ h => h) (Or.inl ⟨by kernel_rfl, ?hy2⟩) (by assumption) ?_
    case hy2 => (intro w' hSw; (try dsimp only at hSw); go_simp; try with_reducible rfl)
    simp only [Act.put, List.setIfInBounds_toArray, List.set_cons_zero, List.set_cons_succ]
    refine wpAnyH_take (i := 5) (oi := ⟨some 53, _, _, _, _, _⟩) (v := ?_) rfl (by kernel_rfl) (by kernel_rfl) (by kernel_rfl) (fun _ _ _ h => h) (Or.inl ⟨by kernel_rfl, ?hy5⟩) (by assumption) ?_
    case hy5 => (intro w' hSw; (try dsimp only at hSw); go_simp; try with_reducible rfl)
    simp only [Act.put, List.setIfInBounds_toArray, List.set_cons_zero, List.set_cons_succ]
    refine wpAnyH_take (i := 6) (oi := ⟨some 54, _, _, _, _, _⟩) (v := ?_) rfl (by kernel_rfl) (by kernel_rfl) (by kernel_rfl) (fun _ _ _ h => h) (Or.inl ⟨by kernel_rfl, ?hy6⟩) (by assumption) ?_
    case hy6 => (intro w' hSw; (try dsimp only at hSw); go_simp; try with_reducible rfl)
    simp only [Act.put, List.setIfInBounds_toArray, List.set_cons_zero, List.set_cons_succ]
    refine wpAnyH_take (i := 7) (oi := ⟨some 55, _, _, _, _, _⟩) (v := ?_) rfl (by kernel_rfl) (by kernel_rfl) (by kernel_rfl) (fun _ _ _ h => h) (Or.inl ⟨by kernel_rfl, ?hy7⟩) (by assumption) ?_
    case hy7 => (intro w' hSw; (try dsimp only at hSw); go_simp; try with_reducible rfl)
    simp only [Act.put, List.setIfInBounds_toArray, List.set_cons_zero, List.set_cons_succ]
    refine wpAnyH_take (i := 8) (oi := ⟨some 56, _, _, _, _, _⟩) (v := ?_) rfl (by kernel_rfl) (by kernel_rfl) (by kernel_rfl) (fun _ _ _ h => h) (Or.inl ⟨by kernel_rfl, ?hy8⟩) (by assumption) ?_
    case hy8 => (intro w' hSw; (try dsimp only at hSw); go_simp; try with_reducible rfl)
    simp only [Act.put, List.setIfInBounds_toArray, List.set_cons_zero, List.set_cons_succ]
    refine wpAnyH_take (i := 9) (oi := ⟨some 57, _, _, _, _, _⟩) (v := ?_) rfl (by kernel_rfl) (by kernel_rfl) (by kernel_rfl) (fun _ _ _ h => h) (Or.inl ⟨by kernel_rfl, ?hy9⟩) (by assumption) ?_
    case hy9 => (intro w' hSw; (try dsimp only at hSw); go_simp; try with_reducible rfl)
    simp only [Act.put, List.setIfInBounds_toArray, List.set_cons_zero, List.set_cons_succ]
    refine wpAnyH_ready (rs := [3]) (by kernel_rfl) (by simp) ?_
    refine AllReadyH.cons (o := ⟨some 51, _, _, _, _, _⟩) rfl (fun K hK => ?_) AllReadyH.nil
    (rw [if_pos (by kernel_rfl)])
    go_simp
    (refine (HB3.out _ (spans_below Hsp.out K6.out)).mono ?_; rintro e w7 ⟨rfl, hb7⟩; have k7 := K6.out.trans (hb7.mono K6.out.size); have b7 := B6.out.below hb7; have r7 := R6.out.below hb7; have r70 := r7.c0; have r71 := r7.c1; have q70 := r7.f0; have q71 := r7.f1)
    refine hK.out _ _ ⟨b7.c0, b7.c1⟩ (fun hHeld => ?_)
    clear hK K
    refine wpAnyH_take (i := 4) (oi := ⟨some 52, _, _, _, _, _⟩) (v := ?_) rfl (by kernel_rfl) (by kernel_rfl) (by kernel_rfl) (fun _ _ _ h => h) (Or.inl ⟨by kernel_rfl, ?hy4⟩) (by assumption) ?_
    case hy4 => (intro w' hSw; (try dsimp only at hSw); go_simp; try with_reducible rfl)
    simp only [Act.put, List.setIfInBounds_toArray, List.set_cons_zero, List.set_cons_succ]
    refine wpAnyH_ready (rs := [10]) (by kernel_rfl) (by simp) ?_
    refine AllReadyH.cons (o := ⟨none, _, _, _, _, _⟩) rfl (fun K hK => ?_) AllReadyH.nil
    (rw [if_pos (by kernel_rfl)])
    go_simp
    refine hK.out _ _ ⟨((b7.other (i := 0) (Nat.ne_of_lt (Nat.lt_succ_self _)) _).other (i := 1) (Nat.ne_of_lt (Nat.lt_succ_self _)) _).c0, ((b7.other (i := 0) (Nat.ne_of_lt (Nat.lt_succ_self _)) _).other (i := 1) (Nat.ne_of_lt (Nat.lt_succ_self _)) _).c1⟩ (fun hHeld => ?_)
    clear hK K
    refine wpAnyH_take (i := 11) (oi := ⟨some 7, _, _, _, _, _⟩) (v := ?_) rfl (by kernel_rfl) (by kernel_rfl) (by kernel_rfl) (fun _ _ _ h => h) (Or.inl ⟨by kernel_rfl, ?hy11⟩) (by assumption) ?_
    case hy11 => (intro w' hSw; (try dsimp only at hSw); go_simp; try with_reducible rfl)
    simp only [Act.put, List.setIfInBounds_toArray, List.set_cons_zero, List.set_cons_succ]
    refine wpAnyH_done (by kernel_rfl) ?_ _
    have K7 := Lib.hid k7
    have R7 := Lib.hid r7
    go_wp2
    refine bodyPost_ret (results_bx2 rfl _ _ (w.heap.size + 1) (.string (bs cS)) (.int .i64 (ca : Int)) 36 rfl ((R7.out.set0 _).set1 _) Tryz.underlying36 (sizeBuf _)) rfl ?_
    exact ⟨rfl, (K7.out.setCell (p := ⟨w.heap.size + 1, 0, none⟩) (Nat.le_succ _) _).setCell (p := ⟨w.heap.size + 1, 1, none⟩) (Nat.le_succ _) _⟩
  · have hdf : decide ((f : Int) < (a : Int)) = false := decide_eq_false (by omega)
    obtain rfl : a = at' := by rw [HAt.out, if_neg hfa]
    go_wp2_with fail
    generalize w5.drewN nq = W6 at *
    have K6 := Lib.hid (K6a.out.drew)
    have B6 := Lib.hid (B6a.out.drew)
    have R6 := Lib.hid (R6a.out.drew)
    refine wp_region_held_drew (S := (fun w' => w'.cell? ⟨w.heap.size, 0, none⟩ = some (.string (bs m)) ∧ w'.cell? ⟨w.heap.size, 1, none⟩ = some (.int .i64 (a : Int)))) (by kernel_rfl) ⟨B6.out.c0, B6.out.c1⟩ (fun hHeld => ?_)
    refine wpAnyH_take (i := 0) (oi := ⟨some 48, _, _, _, _, _⟩) (v := ?_) rfl (by kernel_rfl) (by kernel_rfl) (by kernel_rfl) (fun _ _ _ h => h) (Or.inl ⟨by kernel_rfl, ?hy0⟩) (by assumption) ?_
    case hy0 => (intro w' hSw; (try dsimp only at hSw); go_simp; try with_reducible rfl)
    simp only [Act.put, List.setIfInBounds_toArray, List.set_cons_zero, List.set_cons_succ]
    refine wpAnyH_take (i := 1) (oi := ⟨some 49, _, _, _, _, _⟩) (v := ?_) rfl (by kernel_rfl) (by kernel_rfl) (by kernel_rfl) (fun _ _ _ h => h) (Or.inl ⟨by kernel_rfl, ?hy1⟩) (by assumption) ?_
    case hy1 => (intro w' hSw; (try dsimp only at hSw); go_simp; try with_reducible rfl)
    simp only [Act.put, List.setIfInBounds_toArray, List.set_cons_zero, List.set_cons_succ]
    refine wpAnyH_take (i := 2) (oi := ⟨some 50, _, _, _, _, _⟩) (v := ?_) rfl (by kernel_rfl) (by kernel_rfl) (by kernel_rfl) (fun _ _ _ h => h) (Or.inl ⟨by kernel_rfl, ?hy2⟩) (by assumption) ?_
    case hy2 => (intro w' hSw; (try dsimp only at hSw); go_simp; try with_reducible rfl)
    simp only [Act.put, List.setIfInBounds_toArray, List.set_cons_zero, List.set_cons_succ]
    refine wpAnyH_take (i := 5) (oi := ⟨some 53, _, _, _, _, _⟩) (v := ?_) rfl (by kernel_rfl) (by kernel_rfl) (by kernel_rfl) (fun _ _ _ h => h) (Or.inl ⟨by kernel_rfl, ?hy5⟩) (by assumption) ?_
    case hy5 => (intro w' hSw; (try dsimp only at hSw); go_simp; try with_reducible rfl)
    simp only [Act.put, List.setIfInBounds_toArray, List.set_cons_zero, List.set_cons_succ]
    refine wpAnyH_take (i := 6) (oi := ⟨some 54, _, _, _, _, _⟩) (v := ?_) rfl (by kernel_rfl) (by kernel_rfl) (by kernel_rfl) (fun _ _ _ h => h) (Or.inl ⟨by kernel_rfl, ?hy6⟩) (by assumption) ?_
    case hy6 => (intro w' hSw; (try dsimp only at hSw); go_simp; try with_reducible rfl)
    simp only [Act.put, List.setIfInBounds_toArray, List.set_cons_zero, List.set_cons_succ]
    refine wpAnyH_take (i := 7) (oi := ⟨some 55, _, _, _, _, _⟩) (v := ?_) rfl (by kernel_rfl) (by kernel_rfl) (by kernel_rfl) (fun _ _ _ h => h) (Or.inl ⟨by kernel_rfl, ?hy7⟩) (by assumption) ?_
    case hy7 => (intro w' hSw; (try dsimp only at hSw); go_simp; try with_reducible rfl)
    simp only [Act.put, List.setIfInBounds_toArray, List.set_cons_zero, List.set_cons_succ]
    refine wpAnyH_take (i := 8) (oi := ⟨some 56, _, _, _, _, _⟩) (v := ?_) rfl (by kernel_rfl) (by kernel_rfl) (by kernel_rfl) (fun _ _ _ h => h) (Or.inl ⟨by kernel_rfl, ?hy8⟩) (by assumption) ?_
    case hy8 => (intro w' hSw; (try dsimp only at hSw); go_simp; try with_reducible rfl)
    simp only [Act.put, List.setIfInBounds_toArray, List.set_cons_zero, List.set_cons_succ]
    refine wpAnyH_take (i := 9) (oi := ⟨some 57, _, _, _, _, _⟩) (v := ?_) rfl (by kernel_rfl) (by kernel_rfl) (by kernel_rfl) (fun _ _ _ h => h) (Or.inl ⟨by kernel_rfl, ?hy9⟩) (by assumption) ?_
    case hy9 => (intro w' hSw; (try dsimp only at hSw); go_simp; try with_reducible rfl)
    simp only [Act.put, List.setIfInBounds_toArray, List.set_cons_zero, List.set_cons_succ]
    refine wpAnyH_ready (rs := [3]) (by kernel_rfl) (by simp) ?_
    refine AllReadyH.cons (o := ⟨some 51, _, _, _, _, _⟩) rfl (fun K hK => ?_) AllReadyH.nil
    (rw [if_pos (by kernel_rfl)])
    go_simp
    (refine (HB3.out _ (spans_below Hsp.out K6.out)).mono ?_; rintro e w7 ⟨rfl, hb7⟩; have k7 := K6.out.trans (hb7.mono K6.out.size); have b7 := B6.out.below hb7; have r7 := R6.out.below hb7; have r70 := r7.c0; have r71 := r7.c1; have q70 := r7.f0; have q71 := r7.f1)
    refine hK.out _ _ ⟨b7.c0, b7.c1⟩ (fun hHeld => ?_)
    clear hK K
    refine wpAnyH_take (i := 4) (oi := ⟨some 52, _, _, _, _, _⟩) (v := ?_) rfl (by kernel_rfl) (by kernel_rfl) (by kernel_rfl) (fun _ _ _ h => h) (Or.inl ⟨by kernel_rfl, ?hy4⟩) (by assumption) ?_
    case hy4 => (intro w' hSw; (try dsimp only at hSw); go_simp; try with_reducible rfl)
    simp only [Act.put, List.setIfInBounds_toArray, List.set_cons_zero, List.set_cons_succ]
    refine wpAnyH_ready (rs := [10]) (by kernel_rfl) (by simp) ?_
    refine AllReadyH.cons (o := ⟨none, _, _, _, _, _⟩) rfl (fun K hK => ?_) AllReadyH.nil
    (rw [if_pos (by kernel_rfl)])
    go_simp
    refine hK.out _ _ ⟨((b7.other (i := 0) (Nat.ne_of_lt (Nat.lt_succ_self _)) _).other (i := 1) (Nat.ne_of_lt (Nat.lt_succ_self _)) _).c0, ((b7.other (i := 0) (Nat.ne_of_lt (Nat.lt_succ_self _)) _).other (i := 1) (Nat.ne_of_lt (Nat.lt_succ_self _)) _).c1⟩ (fun hHeld => ?_)
    clear hK K
    refine wpAnyH_take (i := 11) (oi := ⟨some 7, _, _, _, _, _⟩) (v := ?_) rfl (by kernel_rfl) (by kernel_rfl) (by kernel_rfl) (fun _ _ _ h => h) (Or.inl ⟨by kernel_rfl, ?hy11⟩) (by assumption) ?_
    case hy11 => (intro w' hSw; (try dsimp only at hSw); go_simp; try with_reducible rfl)
    simp only [Act.put, List.setIfInBounds_toArray, List.set_cons_zero, List.set_cons_succ]
    refine wpAnyH_done (by kernel_rfl) ?_ _
    have K7 := Lib.hid k7
    have R7 := Lib.hid r7
    go_wp2
    refine bodyPost_ret (results_bx2 rfl _ _ (w.heap.size + 1) (.string (bs cS)) (.int .i64 (ca : Int)) 36 rfl ((R7.out.set0 _).set1 _) Tryz.underlying36 (sizeBuf _)) rfl ?_
    exact ⟨rfl, (K7.out.setCell (p := ⟨w.heap.size + 1, 0, none⟩) (Nat.le_succ _) _).setCell (p := ⟨w.heap.size + 1, 1, none⟩) (Nat.le_succ _) _⟩
theorem cutT_calls (l : List UInt8) (n x y : Int) (hl : l.length ≤ 137438953472) (w : World) (hsp : Spans w) :
    Calls Tryz.prog 20 #[.agg #[.string (bs l), .int .i64 n], .int .i64 x, .int .i64 y] w fun e w' => e = .returned (.tuple #[.agg #[.string (bs (cutR (mS l) (mA l n) (backL (mS l) x) (backL (mS l) y)).1), .int .i64 ((cutR (mS l) (mA l n) (backL (mS l) x) (backL (mS l) y)).2.1 : Int)], .string (bs (cutR (mS l) (mA l n) (backL (mS l) x) (backL (mS l) y)).2.2)]) ∧ Below w.heap.size w w' := by
  unfold cutR
  by_cases h : backL (mS l) x < backL (mS l) y
  · rw [if_pos h]
    dsimp only
    exact cutT_ok l n x y hl w hsp h
  · rw [if_neg h]
    dsimp only
    rw [show bs [] = (⟨#[]⟩ : ByteArray) from rfl]
    exact cutT_no l n x y hl w hsp (by omega)
end
end Go.Proofs.YtlmbafnoopfilaaGreatDoor
