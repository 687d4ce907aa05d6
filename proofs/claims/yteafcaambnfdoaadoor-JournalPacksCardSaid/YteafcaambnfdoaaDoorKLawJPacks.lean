/-
  The walks of JournalPacks and JournalUnpacks (layer 12).
-/
import Derived.Test.YteafcaambnfdoaaDoorPa39
import Derived.Laws.StructEq
namespace Go.Proofs.YteafcaambnfdoaaDoor
open Go Go.RowKit
set_option maxRecDepth 100000

theorem pack_drop6 (p : List UInt8) : (packF p).drop 6 = p := by
  unfold packF
  rw [← List.append_assoc, List.drop_left' (by rw [List.length_append]; rfl)]
set_option maxHeartbeats 8000000 in
theorem lpacks12_calls (e : EnJ) (w : World) (ht : LaysR w) : Calls Tryd.prog 3 #[.agg (enC e).toArray] w fun x w' => x = .returned (.bool true) ∧ Below w.heap.size w w' := by
  obtain ⟨t, d, c⟩ := e
  have hs1 := bs_size d
  have hs2 := bs_size c
  have hb := (Below.refl _ w).alloc (Nat.le_refl _) (.cells (enC ⟨t, d, c⟩).toArray 23)
  have hx := BxA.new w 23 (enC ⟨t, d, c⟩)
  go_enter Tryd.func3, Tryd.ntmps3
  obtain ⟨W, hW⟩ : ∃ W, w.alloc (.cells (enC ⟨t, d, c⟩).toArray 23) = W := ⟨_, rfl⟩
  rw [hW] at hb hx
  have HB := Lib.hid hb
  have HX := Lib.hid hx
  have HT : Hid (LaysR W) := Lib.hid (ht.on hb)
  have x0 := hx.c 0 rfl
  have x1 := hx.c 1 rfl
  have x2 := hx.c 2 rfl
  clear hb hx ht
  simp only at x0 x1 x2
  by_cases hlong : 500 < d.length ∨ 1500 < c.length
  · have HA := Lib.hid (jalive12_calls W HT.out)
    skip
    rcases (show 500 < d.length ∨ (¬ 500 < d.length ∧ 1500 < c.length) by omega) with h | ⟨h, h'⟩
    · have q1 : decide ((500 : Int) < (d.length : Int)) = true := decide_eq_true (by omega)
      clear hlong h
      go_wp2_with fail
      refine HA.out.mono ?_
      rintro x w1 ⟨rfl, hb1⟩
      have HB1 := Lib.hid (HB.out.trans (hb1.mono HB.out.size))
      clear hb1
      go_wp2_with fail
      go_ret
      exact ⟨rfl, HB1.out⟩
    · have q1 : decide ((500 : Int) < (d.length : Int)) = false := decide_eq_false (by omega)
      have q3 : decide ((1500 : Int) < (c.length : Int)) = true := decide_eq_true (by omega)
      clear hlong h h'
      go_wp2_with fail
      refine HA.out.mono ?_
      rintro x w1 ⟨rfl, hb1⟩
      have HB1 := Lib.hid (HB.out.trans (hb1.mono HB.out.size))
      clear hb1
      go_wp2_with fail
      go_ret
      exact ⟨rfl, HB1.out⟩
  · have q1 : decide ((500 : Int) < (d.length : Int)) = false := decide_eq_false (by omega)
    have q2 : decide ((1500 : Int) < (c.length : Int)) = false := decide_eq_false (by omega)
    clear hlong
    by_cases he : rightJ ⟨t, d, c⟩
    · have HRl : Hid ((recJ ⟨t, d, c⟩).length ≤ 672 ∧ 12 ≤ (recJ ⟨t, d, c⟩).length) := Lib.hid ⟨recJ_le he, by rw [recJ_length]; omega⟩
      have HP1 := Lib.hid (jpack12_calls _ he W HT.out)
      have HP2 := Lib.hid (fun y => rpack12_calls _ he y)
      have HR1 := Lib.hid (fun y => jright12_calls ⟨t, d, c⟩ y)
      have HR2 := Lib.hid (fun y => rright12_calls ⟨t, d, c⟩ y)
      rw [decide_eq_true he] at HR1 HR2
      have HD : Hid ((recJ ⟨t, d, c⟩).drop 6 = payJ ⟨t, d, c⟩) := Lib.hid (pack_drop6 _)
      have HU := Lib.hid (unpack_pay he)
      clear he
      generalize hrc : recJ ⟨t, d, c⟩ = rc at *
      generalize payJ ⟨t, d, c⟩ = pay at *
      clear hrc
      go_wp2_with fail
      refine HP1.out.mono ?_
      rintro x w1 ⟨A1, u1, rfl, hown1, hb1⟩
      have HB1 := Lib.hid (HB.out.trans (hb1.mono HB.out.size))
      have HX1 := Lib.hid (HX.out.below hb1)
      have HO1 := Lib.hid (byt_of_own hown1)
      have HN1 := Lib.hid (own_none hown1)
      have HT1 := Lib.hid (HT.out.on hb1)
      have x0 := HX1.out.c 0 rfl
      have x1 := HX1.out.c 1 rfl
      have x2 := HX1.out.c 2 rfl
      clear hown1 hb1 HP1
      simp only at x0 x1 x2
      go_wp2_with fail
      refine (HP2.out _).mono ?_
      rintro x w2 ⟨A2, u2, rfl, hown2, hb2⟩
      have HB2 := Lib.hid (HB1.out.trans (hb2.mono HB1.out.size))
      have HX2 := Lib.hid (HX1.out.below hb2)
      have HO2 := Lib.hid (byt_of_own hown2)
      have HO1b := Lib.hid (HO1.out.1.below hb2)
      have HT2 := Lib.hid (HT1.out.on hb2)
      have CX : Hid (∀ y, Below w2.heap.size w2 y → y.cell? ⟨w.heap.size, 0, none⟩ = some (.int .i64 t) ∧ y.cell? ⟨w.heap.size, 1, none⟩ = some (.string (bs d)) ∧ y.cell? ⟨w.heap.size, 2, none⟩ = some (.string (bs c))) := Lib.hid (fun y hy => (HX2.out.below hy).three)
      have HK0 : Hid (Below w2.heap.size w2 w2.drew) := Lib.hid (Below.refl _ _).drew
      have k0 := CX.out _ HK0.out
      have HQ1 : Hid (∀ y, Below w2.heap.size w2 y → Calls Tryd.prog 9 #[.agg (enC ⟨t, d, c⟩).toArray] y fun x w' => x = .returned (.bool true) ∧ Below y.heap.size y w') := Lib.hid (fun y _ => HR1.out y)
      have HQ2 : Hid (∀ y, Below w2.heap.size w2 y → Calls Tryd.prog 10 #[.agg (enC ⟨t, d, c⟩).toArray] y fun x w' => x = .returned (.bool true) ∧ Below y.heap.size y w') := Lib.hid (fun y _ => HR2.out y)
      have HQ3 : Hid (∀ y, Below w2.heap.size w2 y → Calls Tryd.prog 11 #[.slice A1 rc.length u1, .slice A2 rc.length u2] y fun x w' => x = .returned (.bool true) ∧ Below y.heap.size y w') := Lib.hid (fun y hy => by
        have := beq_calls A1 A2 u1 u2 rc rc y (HO1b.out.below hy) (HO2.out.1.below hy)
        rwa [decide_eq_true rfl] at this)
      clear hown2 hb2 HP2 HR1 HR2
      go_upto_region 5 with fail
      refine wp_region_held_drew (S := (fun w' => w'.cell? ⟨w.heap.size, 0, none⟩ = some (.int .i64 t) ∧ w'.cell? ⟨w.heap.size, 1, none⟩ = some (.string (bs d)) ∧ w'.cell? ⟨w.heap.size, 2, none⟩ = some (.string (bs c)))) (by kernel_rfl) k0 (fun hHeld => ?_)
      refine wpAnyH_take (i := 0) (oi := ⟨some 30, _, _, _, _, _⟩) (v := ?_) rfl (by kernel_rfl) (by kernel_rfl) (by kernel_rfl) (fun _ _ _ h => h) (Or.inl ⟨by kernel_rfl, ?hy0⟩) (by assumption) ?_
      case hy0 => (intro w' hSw; (try dsimp only at hSw); go_simp; try with_reducible rfl)
      simp only [Act.put, List.setIfInBounds_toArray, List.set_cons_zero, List.set_cons_succ]
      refine wpAnyH_take (i := 2) (oi := ⟨some 32, _, _, _, _, _⟩) (v := ?_) rfl (by kernel_rfl) (by kernel_rfl) (by kernel_rfl) (fun _ _ _ h => h) (Or.inl ⟨by kernel_rfl, ?hy2⟩) (by assumption) ?_
      case hy2 => (intro w' hSw; (try dsimp only at hSw); go_simp; try with_reducible rfl)
      simp only [Act.put, List.setIfInBounds_toArray, List.set_cons_zero, List.set_cons_succ]
      refine wpAnyH_ready (rs := [1]) (by kernel_rfl) (by simp) ?_
      refine AllReadyH.cons (o := ⟨some 31, _, _, _, _, _⟩) rfl (fun K hK => ?_) AllReadyH.nil
      (rw [if_pos (by kernel_rfl)])
      go_simp
      refine (HQ1.out _ HK0.out).mono ?_; rintro e y1 ⟨rfl, hb⟩; have HK1 := Lib.hid (HK0.out.trans (hb.mono HK0.out.size)); have k1 := CX.out _ HK1.out; clear hb
      refine hK.out _ _ k1 (fun hHeld => ?_)
      clear hK K
      refine wpAnyH_ready (rs := [3]) (by kernel_rfl) (by simp) ?_
      refine AllReadyH.cons (o := ⟨some 33, _, _, _, _, _⟩) rfl (fun K hK => ?_) AllReadyH.nil
      (rw [if_pos (by kernel_rfl)])
      go_simp
      refine (HQ2.out _ HK1.out).mono ?_; rintro e y2 ⟨rfl, hb⟩; have HK2 := Lib.hid (HK1.out.trans (hb.mono HK1.out.size)); have k2 := CX.out _ HK2.out; clear hb
      refine hK.out _ _ k2 (fun hHeld => ?_)
      clear hK K
      refine wpAnyH_take (i := 4) (oi := ⟨some 34, _, _, _, _, _⟩) (v := ?_) rfl (by kernel_rfl) (by kernel_rfl) (by kernel_rfl) (fun _ _ _ h => h) (Or.inl ⟨by kernel_rfl, ?hy4⟩) (by assumption) ?_
      case hy4 => (intro w' hSw; (try dsimp only at hSw); go_simp; try with_reducible rfl)
      simp only [Act.put, List.setIfInBounds_toArray, List.set_cons_zero, List.set_cons_succ]
      refine wpAnyH_take (i := 5) (oi := ⟨some 35, _, _, _, _, _⟩) (v := ?_) rfl (by kernel_rfl) (by kernel_rfl) (by kernel_rfl) (fun _ _ _ h => h) (Or.inl ⟨by kernel_rfl, ?hy5⟩) (by assumption) ?_
      case hy5 => (intro w' hSw; (try dsimp only at hSw); go_simp; try with_reducible rfl)
      simp only [Act.put, List.setIfInBounds_toArray, List.set_cons_zero, List.set_cons_succ]
      refine wpAnyH_take (i := 6) (oi := ⟨some 36, _, _, _, _, _⟩) (v := ?_) rfl (by kernel_rfl) (by kernel_rfl) (by kernel_rfl) (fun _ _ _ h => h) (Or.inl ⟨by kernel_rfl, ?hy6⟩) (by assumption) ?_
      case hy6 => (intro w' hSw; (try dsimp only at hSw); go_simp; try with_reducible rfl)
      simp only [Act.put, List.setIfInBounds_toArray, List.set_cons_zero, List.set_cons_succ]
      refine wpAnyH_take (i := 7) (oi := ⟨some 37, _, _, _, _, _⟩) (v := ?_) rfl (by kernel_rfl) (by kernel_rfl) (by kernel_rfl) (fun _ _ _ h => h) (Or.inl ⟨by kernel_rfl, ?hy7⟩) (by assumption) ?_
      case hy7 => (intro w' hSw; (try dsimp only at hSw); go_simp; try with_reducible rfl)
      simp only [Act.put, List.setIfInBounds_toArray, List.set_cons_zero, List.set_cons_succ]
      refine wpAnyH_take (i := 8) (oi := ⟨some 38, _, _, _, _, _⟩) (v := ?_) rfl (by kernel_rfl) (by kernel_rfl) (by kernel_rfl) (fun _ _ _ h => h) (Or.inl ⟨by kernel_rfl, ?hy8⟩) (by assumption) ?_
      case hy8 => (intro w' hSw; (try dsimp only at hSw); go_simp; try with_reducible rfl)
      simp only [Act.put, List.setIfInBounds_toArray, List.set_cons_zero, List.set_cons_succ]
      refine wpAnyH_take (i := 9) (oi := ⟨some 39, _, _, _, _, _⟩) (v := ?_) rfl (by kernel_rfl) (by kernel_rfl) (by kernel_rfl) (fun _ _ _ h => h) (Or.inl ⟨by kernel_rfl, ?hy9⟩) (by assumption) ?_
      case hy9 => (intro w' hSw; (try dsimp only at hSw); go_simp; try with_reducible rfl)
      simp only [Act.put, List.setIfInBounds_toArray, List.set_cons_zero, List.set_cons_succ]
      refine wpAnyH_take (i := 10) (oi := ⟨some 40, _, _, _, _, _⟩) (v := ?_) rfl (by kernel_rfl) (by kernel_rfl) (by kernel_rfl) (fun _ _ _ h => h) (Or.inl ⟨by kernel_rfl, ?hy10⟩) (by assumption) ?_
      case hy10 => (intro w' hSw; (try dsimp only at hSw); go_simp; try with_reducible rfl)
      simp only [Act.put, List.setIfInBounds_toArray, List.set_cons_zero, List.set_cons_succ]
      refine wpAnyH_take (i := 11) (oi := ⟨some 41, _, _, _, _, _⟩) (v := ?_) rfl (by kernel_rfl) (by kernel_rfl) (by kernel_rfl) (fun _ _ _ h => h) (Or.inl ⟨by kernel_rfl, ?hy11⟩) (by assumption) ?_
      case hy11 => (intro w' hSw; (try dsimp only at hSw); go_simp; try with_reducible rfl)
      simp only [Act.put, List.setIfInBounds_toArray, List.set_cons_zero, List.set_cons_succ]
      refine wpAnyH_take (i := 12) (oi := ⟨some 42, _, _, _, _, _⟩) (v := ?_) rfl (by kernel_rfl) (by kernel_rfl) (by kernel_rfl) (fun _ _ _ h => h) (Or.inl ⟨by kernel_rfl, ?hy12⟩) (by assumption) ?_
      case hy12 => (intro w' hSw; (try dsimp only at hSw); go_simp; try with_reducible rfl)
      simp only [Act.put, List.setIfInBounds_toArray, List.set_cons_zero, List.set_cons_succ]
      refine wpAnyH_ready (rs := [13]) (by kernel_rfl) (by simp) ?_
      refine AllReadyH.cons (o := ⟨some 43, _, _, _, _, _⟩) rfl (fun K hK => ?_) AllReadyH.nil
      (rw [if_pos (by kernel_rfl)])
      go_simp
      refine (HQ3.out _ HK2.out).mono ?_; rintro e y3 ⟨rfl, hb⟩; have HK3 := Lib.hid (HK2.out.trans (hb.mono HK2.out.size)); have k3 := CX.out _ HK3.out; clear hb
      refine hK.out _ _ k3 (fun hHeld => ?_)
      clear hK K
      refine wpAnyH_take (i := 14) (oi := ⟨some 44, _, _, _, _, _⟩) (v := ?_) rfl (by kernel_rfl) (by kernel_rfl) (by kernel_rfl) (fun _ _ _ h => h) (Or.inl ⟨by kernel_rfl, ?hy14⟩) (by assumption) ?_
      case hy14 => (intro w' hSw; (try dsimp only at hSw); go_simp; try with_reducible rfl)
      simp only [Act.put, List.setIfInBounds_toArray, List.set_cons_zero, List.set_cons_succ]
      refine wpAnyH_take (i := 15) (oi := ⟨some 45, _, _, _, _, _⟩) (v := ?_) rfl (by kernel_rfl) (by kernel_rfl) (by kernel_rfl) (fun _ _ _ h => h) (Or.inl ⟨by kernel_rfl, ?hy15⟩) (by assumption) ?_
      case hy15 => (intro w' hSw; (try dsimp only at hSw); go_simp; try with_reducible rfl)
      simp only [Act.put, List.setIfInBounds_toArray, List.set_cons_zero, List.set_cons_succ]
      refine wpAnyH_done (by kernel_rfl) ?_ _
      have hrl1 := HRl.out.1
      have hrl2 := HRl.out.2
      have d6 : decide ((rc.length : Int) < 6) = false := decide_eq_false (by omega)
      have hrun := run_cut A1 u1 rc 6 (by omega)
      rw [show ((6 : Nat) : Int) = 6 from rfl, HD.out] at hrun
      have hpl : pay.length = rc.length - 6 := by rw [← HD.out, List.length_drop]
      have HUn := Lib.hid (junpack12_calls (dropA A1 u1 6) (u1 - 6) pay y3 (by rw [← HD.out]; exact (HO1b.out.below HK3.out).drop u1 6 HO1.out.2.2.1) (by have := HO1.out.2.2.1; omega) (by omega))
      rw [HU.out] at HUn
      simp only [Option.getD_some, Option.isSome_some] at HUn
      have HX3 := Lib.hid (HX2.out.below HK3.out)
      have HB3 := Lib.hid (HB2.out.trans (HK3.out.mono HB2.out.size))
      have HT3 := Lib.hid (HT2.out.on HK3.out)
      generalize dropA A1 u1 6 = A6 at *
      generalize u1 - 6 = u6 at *
      clear hpl HD hrl1 hrl2
      obtain ⟨x0, x1, x2⟩ := HX3.out.three
      simp only at x0 x1 x2
      go_wp2_with fail
      refine HUn.out.mono ?_
      rintro x w4 ⟨rfl, hb4⟩
      have HB4 := Lib.hid (HB3.out.trans (hb4.mono HB3.out.size))
      have HX4 := Lib.hid ((HX3.out.below hb4).alloc (.cells (enC ⟨t, d, c⟩).toArray 29))
      have HV4 := Lib.hid (BxA.new w4 29 (enC ⟨t, d, c⟩))
      have HBa : Hid (Below w4.heap.size w4 (w4.alloc (.cells (enC ⟨t, d, c⟩).toArray 29))) := Lib.hid ((Below.refl _ w4).alloc (Nat.le_refl _) _)
      have HA := Lib.hid (jalive12_calls (w4.alloc (.cells (enC ⟨t, d, c⟩).toArray 29)) ((HT3.out.on hb4).on HBa.out))
      clear hb4 HUn x0 x1 x2
      go_wp2_with fail
      refine HA.out.mono ?_
      rintro x w5 ⟨rfl, hb5⟩
      obtain ⟨x0, x1, x2⟩ := (HX4.out.below hb5).three
      obtain ⟨z0, z1, z2⟩ := (HV4.out.below hb5).three
      have HB5 := Lib.hid (HB4.out.trans ((HBa.out.trans (hb5.mono HBa.out.size)).mono HB4.out.size))
      have t1 : (t == t) = true := beq_self_eq_true _
      have t2 : (d == d) = true := beq_self_eq_true _
      have t3 : (c == c) = true := beq_self_eq_true _
      clear hb5 HA
      simp only at x0 x1 x2 z0 z1 z2
      go_wp2_with fail
      go_ret
      exact ⟨rfl, HB5.out⟩
    · have HP1 := Lib.hid (jpack12_not _ he W)
      have HP2 := Lib.hid (fun y => rpack12_not _ he y)
      have HR1 := Lib.hid (fun y => jright12_calls ⟨t, d, c⟩ y)
      have HR2 := Lib.hid (fun y => rright12_calls ⟨t, d, c⟩ y)
      rw [decide_eq_false he] at HR1 HR2
      clear he
      go_wp2_with fail
      refine HP1.out.mono ?_
      rintro x w1 ⟨rfl, hb1⟩
      have HB1 := Lib.hid (HB.out.trans (hb1.mono HB.out.size))
      have HX1 := Lib.hid (HX.out.below hb1)
      have HT1 := Lib.hid (HT.out.on hb1)
      obtain ⟨x0, x1, x2⟩ := HX1.out.three
      clear hb1 HP1
      simp only at x0 x1 x2
      go_wp2_with fail
      refine (HP2.out _).mono ?_
      rintro x w2 ⟨rfl, hb2⟩
      have HB2 := Lib.hid (HB1.out.trans (hb2.mono HB1.out.size))
      have HX2 := Lib.hid (HX1.out.below hb2)
      have HT2 := Lib.hid (HT1.out.on hb2)
      have CX : Hid (∀ y, Below w2.heap.size w2 y → y.cell? ⟨w.heap.size, 0, none⟩ = some (.int .i64 t) ∧ y.cell? ⟨w.heap.size, 1, none⟩ = some (.string (bs d)) ∧ y.cell? ⟨w.heap.size, 2, none⟩ = some (.string (bs c))) := Lib.hid (fun y hy => (HX2.out.below hy).three)
      have HK0 : Hid (Below w2.heap.size w2 w2.drew) := Lib.hid (Below.refl _ _).drew
      have k0 := CX.out _ HK0.out
      have HQ1 : Hid (∀ y, Below w2.heap.size w2 y → Calls Tryd.prog 9 #[.agg (enC ⟨t, d, c⟩).toArray] y fun x w' => x = .returned (.bool false) ∧ Below y.heap.size y w') := Lib.hid (fun y _ => HR1.out y)
      have HQ2 : Hid (∀ y, Below w2.heap.size w2 y → Calls Tryd.prog 10 #[.agg (enC ⟨t, d, c⟩).toArray] y fun x w' => x = .returned (.bool false) ∧ Below y.heap.size y w') := Lib.hid (fun y _ => HR2.out y)
      have HQ3 : Hid (∀ y, Below w2.heap.size w2 y → Calls Tryd.prog 11 #[.slice none 0 0, .slice none 0 0] y fun x w' => x = .returned (.bool true) ∧ Below y.heap.size y w') := Lib.hid (fun y hy => by
        have := beq_calls none none 0 0 [] [] y (Byt.nil_ _ _) (Byt.nil_ _ _)
        rwa [decide_eq_true rfl] at this)
      clear hb2 HP2 HR1 HR2
      go_upto_region 5 with fail
      refine wp_region_held_drew (S := (fun w' => w'.cell? ⟨w.heap.size, 0, none⟩ = some (.int .i64 t) ∧ w'.cell? ⟨w.heap.size, 1, none⟩ = some (.string (bs d)) ∧ w'.cell? ⟨w.heap.size, 2, none⟩ = some (.string (bs c)))) (by kernel_rfl) k0 (fun hHeld => ?_)
      refine wpAnyH_take (i := 0) (oi := ⟨some 30, _, _, _, _, _⟩) (v := ?_) rfl (by kernel_rfl) (by kernel_rfl) (by kernel_rfl) (fun _ _ _ h => h) (Or.inl ⟨by kernel_rfl, ?hy0⟩) (by assumption) ?_
      case hy0 => (intro w' hSw; (try dsimp only at hSw); go_simp; try with_reducible rfl)
      simp only [Act.put, List.setIfInBounds_toArray, List.set_cons_zero, List.set_cons_succ]
      refine wpAnyH_take (i := 2) (oi := ⟨some 32, _, _, _, _, _⟩) (v := ?_) rfl (by kernel_rfl) (by kernel_rfl) (by kernel_rfl) (fun _ _ _ h => h) (Or.inl ⟨by kernel_rfl, ?hy2⟩) (by assumption) ?_
      case hy2 => (intro w' hSw; (try dsimp only at hSw); go_simp; try with_reducible rfl)
      simp only [Act.put, List.setIfInBounds_toArray, List.set_cons_zero, List.set_cons_succ]
      refine wpAnyH_ready (rs := [1]) (by kernel_rfl) (by simp) ?_
      refine AllReadyH.cons (o := ⟨some 31, _, _, _, _, _⟩) rfl (fun K hK => ?_) AllReadyH.nil
      (rw [if_pos (by kernel_rfl)])
      go_simp
      refine (HQ1.out _ HK0.out).mono ?_; rintro e y1 ⟨rfl, hb⟩; have HK1 := Lib.hid (HK0.out.trans (hb.mono HK0.out.size)); have k1 := CX.out _ HK1.out; clear hb
      refine hK.out _ _ k1 (fun hHeld => ?_)
      clear hK K
      refine wpAnyH_ready (rs := [3]) (by kernel_rfl) (by simp) ?_
      refine AllReadyH.cons (o := ⟨some 33, _, _, _, _, _⟩) rfl (fun K hK => ?_) AllReadyH.nil
      (rw [if_pos (by kernel_rfl)])
      go_simp
      refine (HQ2.out _ HK1.out).mono ?_; rintro e y2 ⟨rfl, hb⟩; have HK2 := Lib.hid (HK1.out.trans (hb.mono HK1.out.size)); have k2 := CX.out _ HK2.out; clear hb
      refine hK.out _ _ k2 (fun hHeld => ?_)
      clear hK K
      refine wpAnyH_take (i := 4) (oi := ⟨some 34, _, _, _, _, _⟩) (v := ?_) rfl (by kernel_rfl) (by kernel_rfl) (by kernel_rfl) (fun _ _ _ h => h) (Or.inl ⟨by kernel_rfl, ?hy4⟩) (by assumption) ?_
      case hy4 => (intro w' hSw; (try dsimp only at hSw); go_simp; try with_reducible rfl)
      simp only [Act.put, List.setIfInBounds_toArray, List.set_cons_zero, List.set_cons_succ]
      refine wpAnyH_take (i := 5) (oi := ⟨some 35, _, _, _, _, _⟩) (v := ?_) rfl (by kernel_rfl) (by kernel_rfl) (by kernel_rfl) (fun _ _ _ h => h) (Or.inl ⟨by kernel_rfl, ?hy5⟩) (by assumption) ?_
      case hy5 => (intro w' hSw; (try dsimp only at hSw); go_simp; try with_reducible rfl)
      simp only [Act.put, List.setIfInBounds_toArray, List.set_cons_zero, List.set_cons_succ]
      refine wpAnyH_take (i := 6) (oi := ⟨some 36, _, _, _, _, _⟩) (v := ?_) rfl (by kernel_rfl) (by kernel_rfl) (by kernel_rfl) (fun _ _ _ h => h) (Or.inl ⟨by kernel_rfl, ?hy6⟩) (by assumption) ?_
      case hy6 => (intro w' hSw; (try dsimp only at hSw); go_simp; try with_reducible rfl)
      simp only [Act.put, List.setIfInBounds_toArray, List.set_cons_zero, List.set_cons_succ]
      refine wpAnyH_take (i := 7) (oi := ⟨some 37, _, _, _, _, _⟩) (v := ?_) rfl (by kernel_rfl) (by kernel_rfl) (by kernel_rfl) (fun _ _ _ h => h) (Or.inl ⟨by kernel_rfl, ?hy7⟩) (by assumption) ?_
      case hy7 => (intro w' hSw; (try dsimp only at hSw); go_simp; try with_reducible rfl)
      simp only [Act.put, List.setIfInBounds_toArray, List.set_cons_zero, List.set_cons_succ]
      refine wpAnyH_take (i := 8) (oi := ⟨some 38, _, _, _, _, _⟩) (v := ?_) rfl (by kernel_rfl) (by kernel_rfl) (by kernel_rfl) (fun _ _ _ h => h) (Or.inl ⟨by kernel_rfl, ?hy8⟩) (by assumption) ?_
      case hy8 => (intro w' hSw; (try dsimp only at hSw); go_simp; try with_reducible rfl)
      simp only [Act.put, List.setIfInBounds_toArray, List.set_cons_zero, List.set_cons_succ]
      refine wpAnyH_take (i := 9) (oi := ⟨some 39, _, _, _, _, _⟩) (v := ?_) rfl (by kernel_rfl) (by kernel_rfl) (by kernel_rfl) (fun _ _ _ h => h) (Or.inl ⟨by kernel_rfl, ?hy9⟩) (by assumption) ?_
      case hy9 => (intro w' hSw; (try dsimp only at hSw); go_simp; try with_reducible rfl)
      simp only [Act.put, List.setIfInBounds_toArray, List.set_cons_zero, List.set_cons_succ]
      refine wpAnyH_take (i := 10) (oi := ⟨some 40, _, _, _, _, _⟩) (v := ?_) rfl (by kernel_rfl) (by kernel_rfl) (by kernel_rfl) (fun _ _ _ h => h) (Or.inl ⟨by kernel_rfl, ?hy10⟩) (by assumption) ?_
      case hy10 => (intro w' hSw; (try dsimp only at hSw); go_simp; try with_reducible rfl)
      simp only [Act.put, List.setIfInBounds_toArray, List.set_cons_zero, List.set_cons_succ]
      refine wpAnyH_take (i := 11) (oi := ⟨some 41, _, _, _, _, _⟩) (v := ?_) rfl (by kernel_rfl) (by kernel_rfl) (by kernel_rfl) (fun _ _ _ h => h) (Or.inl ⟨by kernel_rfl, ?hy11⟩) (by assumption) ?_
      case hy11 => (intro w' hSw; (try dsimp only at hSw); go_simp; try with_reducible rfl)
      simp only [Act.put, List.setIfInBounds_toArray, List.set_cons_zero, List.set_cons_succ]
      refine wpAnyH_take (i := 12) (oi := ⟨some 42, _, _, _, _, _⟩) (v := ?_) rfl (by kernel_rfl) (by kernel_rfl) (by kernel_rfl) (fun _ _ _ h => h) (Or.inl ⟨by kernel_rfl, ?hy12⟩) (by assumption) ?_
      case hy12 => (intro w' hSw; (try dsimp only at hSw); go_simp; try with_reducible rfl)
      simp only [Act.put, List.setIfInBounds_toArray, List.set_cons_zero, List.set_cons_succ]
      refine wpAnyH_ready (rs := [13]) (by kernel_rfl) (by simp) ?_
      refine AllReadyH.cons (o := ⟨some 43, _, _, _, _, _⟩) rfl (fun K hK => ?_) AllReadyH.nil
      (rw [if_pos (by kernel_rfl)])
      go_simp
      refine (HQ3.out _ HK2.out).mono ?_; rintro e y3 ⟨rfl, hb⟩; have HK3 := Lib.hid (HK2.out.trans (hb.mono HK2.out.size)); have k3 := CX.out _ HK3.out; clear hb
      refine hK.out _ _ k3 (fun hHeld => ?_)
      clear hK K
      refine wpAnyH_take (i := 14) (oi := ⟨some 44, _, _, _, _, _⟩) (v := ?_) rfl (by kernel_rfl) (by kernel_rfl) (by kernel_rfl) (fun _ _ _ h => h) (Or.inl ⟨by kernel_rfl, ?hy14⟩) (by assumption) ?_
      case hy14 => (intro w' hSw; (try dsimp only at hSw); go_simp; try with_reducible rfl)
      simp only [Act.put, List.setIfInBounds_toArray, List.set_cons_zero, List.set_cons_succ]
      refine wpAnyH_take (i := 15) (oi := ⟨some 45, _, _, _, _, _⟩) (v := ?_) rfl (by kernel_rfl) (by kernel_rfl) (by kernel_rfl) (fun _ _ _ h => h) (Or.inl ⟨by kernel_rfl, ?hy15⟩) (by assumption) ?_
      case hy15 => (intro w' hSw; (try dsimp only at hSw); go_simp; try with_reducible rfl)
      simp only [Act.put, List.setIfInBounds_toArray, List.set_cons_zero, List.set_cons_succ]
      refine wpAnyH_done (by kernel_rfl) ?_ _
      have HB3 := Lib.hid (HB2.out.trans (HK3.out.mono HB2.out.size))
      have HA := Lib.hid (jalive12_calls y3 (HT2.out.on HK3.out))
      go_wp2_with fail
      refine HA.out.mono ?_
      rintro x w4 ⟨rfl, hb4⟩
      have HB4 := Lib.hid (HB3.out.trans (hb4.mono HB3.out.size))
      clear hb4 HA
      go_wp2_with fail
      go_ret
      exact ⟨rfl, HB4.out⟩
end Go.Proofs.YteafcaambnfdoaaDoor
