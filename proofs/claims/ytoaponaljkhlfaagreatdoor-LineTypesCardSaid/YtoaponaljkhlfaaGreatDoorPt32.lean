/-
  Layer 7 and what it stands on, part 32 (WordEnds LnA LnB).
-/
import Derived.Test.YtoaponaljkhlfaaGreatDoorPt31
import Derived.Deep.RegionHeld3
namespace Go.Proofs.YtoaponaljkhlfaaGreatDoor
section
open Go Go.RowKit Go.Lib Go.Sort
theorem setCells_same (g : Nat) : ∀ (vs : List Value) (o : Nat) (w : World), (w.setCells g o vs).tape = w.tape ∧ (w.setCells g o vs).heap.size = w.heap.size
  | [], _, _ => ⟨rfl, rfl⟩
  | v :: vs, o, w => by
    obtain ⟨h1, h2⟩ := setCells_same g vs (o + 1) (w.setCell ⟨g, o, none⟩ v)
    exact ⟨h1, h2.trans (by simp [World.setCell])⟩
theorem below_setCells {B g : Nat} {w : World} (hg : B ≤ g) (hB : B ≤ w.heap.size) (o : Nat) (vs : List Value) : Below B w (w.setCells g o vs) :=
  ⟨World.os_setCells _ _ _ _, (setCells_same g vs o w).1, World.output_setCells _ _ _ _, Nat.le_of_eq (setCells_same g vs o w).2.symm, fun k hk => World.heap_setCells_other w g o vs (by omega) (by omega)⟩
theorem strsOf_cs (cs : List (List UInt8)) : strsOf (fun i => bs (cs.getD i [])) cs.length = cs := by
  refine List.ext_getElem (by rw [strsOf_length]) fun i h1 h2 => ?_
  simp [strsOf, List.getD, h2]
theorem reverse_own (cs : List (List UInt8)) (A : Option Addr) (c base : Nat) (w : World) (hown : w.ownsRow base 9 1 (.slice A cs.length c) cs.length (cellsS (cs.map bs))) (hB : base ≤ w.heap.size) (hl : cs.length ≤ 1099511627776) :
    Calls Tryz.prog 41 #[.slice A cs.length c] w fun e w' => e = .returned (.tuple #[]) ∧ RdS w' A (cs.reverse.map bs) ∧ Below base w w' := by
  by_cases h0 : cs.length = 0
  · rw [h0]
    refine (Tryz.slices_Reverse_string_empty A c w).mono ?_
    rintro e w' ⟨rfl, rfl⟩
    exact ⟨rfl, fun hn => absurd hn (by rw [List.length_map, List.length_reverse, h0]; omega), Below.refl _ _⟩
  · rcases hown.2 with ⟨_, h1⟩ | ⟨g, cap, cur, hv, hbg, hh, _⟩
    · exact absurd h1 h0
    · injection hv with h1 h2 h3
      subst h1; subst h3
      have hat : ∀ i, i < cs.length → w.cell? ⟨g, 0 + i, none⟩ = some (.string (bs (cs.getD i []))) ∧ w.frozen? ⟨g, 0 + i, none⟩ = false := fun i hi => by
        rw [Nat.zero_add]
        exact own_cell hown (by simp [cellsS, hi, List.getD])
      refine (Tryz.slices_Reverse_string_cells g 0 cs.length c (fun i => bs (cs.getD i [])) w (by omega) (fun i hi => (hat i hi).1) (fun i hi => (hat i hi).2)).mono ?_
      rintro e w' ⟨rfl, q, rfl⟩
      rw [strsOf_cs]
      refine ⟨rfl, fun hn => ⟨g, 0, rfl, ?_, fun i hi => ?_⟩, (bel_drewN (Below.refl base w) q).trans (below_setCells hbg (bel_drewN (Below.refl base w) q |>.size |> Nat.le_trans hB) 0 _)⟩
      · have h := (Array.getElem?_eq_some_iff.1 hh).1
        rw [(setCells_same g _ 0 _).2]
        exact h
      · rw [List.length_map, List.length_reverse] at hi
        have h := World.cell?_setCells_in g (cs.reverse.map encStr) 0 (w.drewN q) (fun j hj => by
          rw [List.length_map, List.length_reverse] at hj
          have h2 := (hat j hj).1
          show (w.cell? ⟨g, 0 + j, none⟩).isSome = true
          rw [h2]; rfl) i (by rw [List.length_map, List.length_reverse]; exact hi)
        rw [h]
        simp [encStr, List.getD, hi]
theorem cutB_bs (l : List UInt8) : cutB (bs l) = (cutL l).map bs := rfl
theorem rev_flat (cs : List (List UInt8)) : cs.reverse.flatten.length = cs.flatten.length := by
  rw [List.length_flatten, List.length_flatten, List.map_reverse, List.sum_reverse]
theorem thr_rev (A : Option Addr) (c : Nat) (cs : List (List UInt8)) (w : World) (hR : RdS w A (cs.reverse.map bs)) (hm : cs.flatten.length ≤ 1099511627776) (hn : cs.length ≤ 1099511627776) :
    Calls Tryz.prog 42 #[.slice A cs.length c] w fun e w' => e = .returned (.int .i64 (thrL cs.reverse : Int)) ∧ Below w.heap.size w w' := by
  have h := through_calls A c cs.reverse w hR (by rw [rev_flat]; exact hm) (by rw [List.length_reverse]; exact hn)
  rwa [List.length_reverse] at h
theorem thrL_le (cs : List (List UInt8)) : thrL cs ≤ cs.flatten.length := pos_le cs _
theorem cutv_calls (l : List UInt8) (hl : l.length ≤ 1099511627776) (w : World) (hsp : Spans w) :
    Calls Tryz.prog 40 #[.string (bs l)] w fun e w' => ∃ v, e = .returned v ∧ w'.ownsRow w.heap.size 9 1 v (cutL l).length (cellsS ((cutL l).map bs)) ∧ Below w.heap.size w w' := by
  refine (cut_calls (bs l) (by rw [bs_size]; exact hl) w hsp).mono ?_
  rintro e w' ⟨v, rfl, hown, hb⟩
  rw [cutB_bs, List.length_map] at hown
  exact ⟨v, rfl, hown, hb⟩
set_option maxHeartbeats 4000000 in
theorem wordRight_calls (l : List UInt8) (n : Int) (hl : l.length ≤ 137438953472) (w : World) (hsp : Spans w) :
    Calls Tryz.prog 18 #[.string (bs l), .int .i64 n] w fun e w' => e = .returned (.int .i64 (wrL (mS l) (mA l n) : Int)) ∧ Below w.heap.size w w' := by
  have HM := Lib.hid (fun W h => make_calls l n hl W h)
  have ha := mA_le l n
  have hms := mS_len l
  have hcl := cutL_length ((mS l).drop (mA l n))
  have hcf := cutL_flatten ((mS l).drop (mA l n))
  have hdl := drop_len_le (mS l) (mA l n)
  have HC := Lib.hid (fun W h => cut_rd ((mS l).drop (mA l n)) (by omega) W h)
  have hth := thrL_le (cutL ((mS l).drop (mA l n)))
  have hwr : Hid (wrL (mS l) (mA l n) = mA l n + thrL (cutL ((mS l).drop (mA l n)))) := Lib.hid rfl
  have hx := bs_drop (mS l) (mA l n)
  rw [hcf] at hth
  have hcfl : (cutL ((mS l).drop (mA l n))).flatten.length ≤ 600 := by rw [hcf]; omega
  generalize wrL (mS l) (mA l n) = x at *
  clear hcf
  generalize cutL ((mS l).drop (mA l n)) = cs at *
  generalize (mS l).drop (mA l n) = y at *
  generalize mA l n = a at *
  generalize mS l = m at *
  have hszm := bs_size m
  have hi0 : (0 : Int) ≤ (a : Int) := by omega
  have hi1 : (a : Int) ≤ (m.length : Int) := by omega
  have hw1 : IntKind.i64.wrap ((a : Int) + (thrL cs : Int)) = (a : Int) + (thrL cs : Int) := IntWalk.i64_in _ (by omega)
  have Hsp := Lib.hid hsp
  clear hsp
  go_enter Tryz.func18, Tryz.ntmps18
  go_wp2_with fail
  refine (HM.out _ Hsp.out).mono ?_
  rintro e w1 ⟨rfl, hb1⟩
  have b1 := Bx.new w1 43 (.string (bs m)) (.int .i64 (a : Int))
  have k1 : Below w.heap.size w (w1.alloc (.cells #[.string (bs m), .int .i64 (a : Int)] 43)) := hb1.alloc hb1.size _
  have K2 := Lib.hid k1.drew
  have B2 := Lib.hid b1.drew
  clear hb1 b1 k1
  go_wp2_with fail
  refine wp_region_held_drew (S := (fun w' => w'.cell? ⟨w1.heap.size, 0, none⟩ = some (.string (bs m)) ∧ w'.cell? ⟨w1.heap.size, 1, none⟩ = some (.int .i64 (a : Int)))) (by kernel_rfl) ⟨B2.out.c0, B2.out.c1⟩ (fun hHeld => ?_)
  refine wpAnyH_take (i := 0) (oi := ⟨some 9, _, _, _, _, _⟩) (v := ?_) rfl (by kernel_rfl) (by kernel_rfl) (by kernel_rfl) (fun _ _ _ h => h) (Or.inl ⟨by kernel_rfl, ?hy0⟩) (by assumption) ?_
  case hy0 => (intro w' hSw; (try dsimp only at hSw); go_simp; try with_reducible rfl)
  simp only [Act.put, List.setIfInBounds_toArray, List.set_cons_zero, List.set_cons_succ]
  refine wpAnyH_take (i := 1) (oi := ⟨some 10, _, _, _, _, _⟩) (v := ?_) rfl (by kernel_rfl) (by kernel_rfl) (by kernel_rfl) (fun _ _ _ h => h) (Or.inl ⟨by kernel_rfl, ?hy1⟩) (by assumption) ?_
  case hy1 => (intro w' hSw; (try dsimp only at hSw); go_simp; try with_reducible rfl)
  simp only [Act.put, List.setIfInBounds_toArray, List.set_cons_zero, List.set_cons_succ]
  refine wpAnyH_take (i := 2) (oi := ⟨some 11, _, _, _, _, _⟩) (v := ?_) rfl (by kernel_rfl) (by kernel_rfl) (by kernel_rfl) (fun _ _ _ h => h) (Or.inl ⟨by kernel_rfl, ?hy2⟩) (by assumption) ?_
  case hy2 => (intro w' hSw; (try dsimp only at hSw); go_simp; try with_reducible rfl)
  simp only [Act.put, List.setIfInBounds_toArray, List.set_cons_zero, List.set_cons_succ]
  refine wpAnyH_take (i := 3) (oi := ⟨some 12, _, _, _, _, _⟩) (v := ?_) rfl (by kernel_rfl) (by kernel_rfl) (by kernel_rfl) (fun _ _ _ h => h) (Or.inl ⟨by kernel_rfl, ?hy3⟩) (by assumption) ?_
  case hy3 => (intro w' hSw; (try dsimp only at hSw); go_simp; try with_reducible rfl)
  simp only [Act.put, List.setIfInBounds_toArray, List.set_cons_zero, List.set_cons_succ]
  refine wpAnyH_take (i := 4) (oi := ⟨some 13, _, _, _, _, _⟩) (v := ?_) rfl (by kernel_rfl) (by kernel_rfl) (by kernel_rfl) (fun _ _ _ h => h) (Or.inl ⟨by kernel_rfl, ?hy4⟩) (by assumption) ?_
  case hy4 => (intro w' hSw; (try dsimp only at hSw); go_simp; try with_reducible rfl)
  simp only [Act.put, List.setIfInBounds_toArray, List.set_cons_zero, List.set_cons_succ]
  refine wpAnyH_take (i := 5) (oi := ⟨some 14, _, _, _, _, _⟩) (v := ?_) rfl (by kernel_rfl) (by kernel_rfl) (by kernel_rfl) (fun _ _ _ h => h) (Or.inl ⟨by kernel_rfl, ?hy5⟩) (by assumption) ?_
  case hy5 => (intro w' hSw; (try dsimp only at hSw); go_simp; try with_reducible rfl)
  simp only [Act.put, List.setIfInBounds_toArray, List.set_cons_zero, List.set_cons_succ]
  refine wpAnyH_take (i := 6) (oi := ⟨some 15, _, _, _, _, _⟩) (v := ?_) rfl (by kernel_rfl) (by kernel_rfl) (by kernel_rfl) (fun _ _ _ h => h) (Or.inl ⟨by kernel_rfl, ?hy6⟩) (by assumption) ?_
  case hy6 => (intro w' hSw; (try dsimp only at hSw); go_simp; try with_reducible rfl)
  simp only [Act.put, List.setIfInBounds_toArray, List.set_cons_zero, List.set_cons_succ]
  refine wpAnyH_ready (rs := [7]) (by kernel_rfl) (by simp) ?_
  refine AllReadyH.cons (o := ⟨some 16, _, _, _, _, _⟩) rfl (fun K hK => ?_) AllReadyH.nil
  (rw [if_pos (by kernel_rfl)])
  go_simp
  (refine (HC.out _ (spans_below Hsp.out K2.out)).mono ?_; rintro e w3 ⟨A, c, rfl, hR3, hb3⟩; have k3 := K2.out.trans (hb3.mono K2.out.size); have b3 := B2.out.below hb3)
  refine hK.out _ _ ⟨b3.c0, b3.c1⟩ (fun hHeld => ?_)
  clear hK K
  refine wpAnyH_ready (rs := [8]) (by kernel_rfl) (by simp) ?_
  refine AllReadyH.cons (o := ⟨some 17, _, _, _, _, _⟩) rfl (fun K hK => ?_) AllReadyH.nil
  (rw [if_pos (by kernel_rfl)])
  go_simp
  (refine (through_calls A c cs _ hR3 (by omega) (by omega)).mono ?_; rintro e w4 ⟨rfl, hb4⟩; have k4 := k3.trans (hb4.mono k3.size); have b4 := b3.below hb4)
  refine hK.out _ _ ⟨b4.c0, b4.c1⟩ (fun hHeld => ?_)
  clear hK K
  refine wpAnyH_take (i := 9) (oi := ⟨some 18, _, _, _, _, _⟩) (v := ?_) rfl (by kernel_rfl) (by kernel_rfl) (by kernel_rfl) (fun _ _ _ h => h) (Or.inl ⟨by kernel_rfl, ?hy9⟩) (by assumption) ?_
  case hy9 => (intro w' hSw; (try dsimp only at hSw); go_simp; try with_reducible rfl)
  simp only [Act.put, List.setIfInBounds_toArray, List.set_cons_zero, List.set_cons_succ]
  refine wpAnyH_take (i := 10) (oi := ⟨some 4, _, _, _, _, _⟩) (v := ?_) rfl (by kernel_rfl) (by kernel_rfl) (by kernel_rfl) (fun _ _ _ h => h) (Or.inl ⟨by kernel_rfl, ?hy10⟩) (by assumption) ?_
  case hy10 => (intro w' hSw; (try dsimp only at hSw); go_simp; try with_reducible rfl)
  simp only [Act.put, List.setIfInBounds_toArray, List.set_cons_zero, List.set_cons_succ]
  refine wpAnyH_done (by kernel_rfl) ?_ _
  have K4 := Lib.hid k4
  clear hHeld k3 b3 k4 b4 hb3 hb4 hR3
  go_wp2
  go_ret
  exact ⟨by rw [hwr.out]; go_num, K4.out⟩
set_option maxHeartbeats 4000000 in
theorem wordLeft_calls (l : List UInt8) (n : Int) (hl : l.length ≤ 137438953472) (w : World) (hsp : Spans w) :
    Calls Tryz.prog 17 #[.string (bs l), .int .i64 n] w fun e w' => e = .returned (.int .i64 (wlL (mS l) (mA l n) : Int)) ∧ Below w.heap.size w w' := by
  have HM := Lib.hid (fun W h => make_calls l n hl W h)
  have ha := mA_le l n
  have hms := mS_len l
  have hcl := cutL_length ((mS l).take (mA l n))
  have hcf := cutL_flatten ((mS l).take (mA l n))
  have htl : ((mS l).take (mA l n)).length = mA l n := by rw [List.length_take]; omega
  have HC := Lib.hid (fun W h => cutv_calls ((mS l).take (mA l n)) (by omega) W h)
  have hth := thrL_le (cutL ((mS l).take (mA l n))).reverse
  have hrf := rev_flat (cutL ((mS l).take (mA l n)))
  have hwr : Hid (wlL (mS l) (mA l n) = mA l n - thrL (cutL ((mS l).take (mA l n))).reverse) := Lib.hid rfl
  have hx := bs_take (mS l) (mA l n)
  rw [hrf, hcf] at hth
  have hcfl : (cutL ((mS l).take (mA l n))).flatten.length ≤ 600 := by rw [hcf]; omega
  generalize wlL (mS l) (mA l n) = x at *
  clear hcf
  generalize cutL ((mS l).take (mA l n)) = cs at *
  generalize (mS l).take (mA l n) = y at *
  generalize mA l n = a at *
  generalize mS l = m at *
  have hszm := bs_size m
  have hi0 : (0 : Int) ≤ (a : Int) := by omega
  have hi1 : (a : Int) ≤ (m.length : Int) := by omega
  have hw1 : IntKind.i64.wrap ((a : Int) - (thrL cs.reverse : Int)) = (a : Int) - (thrL cs.reverse : Int) := IntWalk.i64_in _ (by omega)
  have Hsp := Lib.hid hsp
  clear hsp
  go_enter Tryz.func17, Tryz.ntmps17
  go_wp2_with fail
  refine (HM.out _ Hsp.out).mono ?_
  rintro e w1 ⟨rfl, hb1⟩
  have b1 := Bx.new w1 43 (.string (bs m)) (.int .i64 (a : Int))
  have c10 := b1.c0
  have c11 := b1.c1
  have k1 : Below w.heap.size w (w1.alloc (.cells #[.string (bs m), .int .i64 (a : Int)] 43)) := hb1.alloc hb1.size _
  have K1 := Lib.hid k1
  have B1 := Lib.hid b1
  clear hb1 b1 k1
  go_wp2_with fail
  refine (HC.out _ (spans_below Hsp.out K1.out)).mono ?_
  rintro e w3 ⟨v, rfl, hown, hb3⟩
  obtain ⟨A, c, rfl⟩ := own_form hown
  have hsz3 := hb3.size
  have k3 := K1.out.trans (hb3.mono K1.out.size)
  have b3 := B1.out.below hb3
  have Hrev := Lib.hid (reverse_own cs A c _ w3 hown hsz3 (by omega))
  have K3 := Lib.hid k3
  have B3 := Lib.hid b3
  have HK1 := Lib.hid K1.out.size
  clear hown hb3 k3 b3 c10 c11 hsz3
  go_wp2_with fail
  refine Hrev.out.mono ?_
  rintro e w4 ⟨rfl, hR4, hb4⟩
  have k4 : Below w.heap.size w w4 := K3.out.trans (hb4.mono HK1.out)
  have b4 : Bx w4 w1.heap.size 43 (.string (bs m)) (.int .i64 (a : Int)) := (hb4.block _ (by simp)).trans B3.out
  have hR5 : RdS w4.drew A (cs.reverse.map bs) := hR4
  have K5 := Lib.hid k4.drew
  have B5 := Lib.hid b4.drew
  clear hb4 k4 b4 hR4
  go_wp2_with fail
  refine wp_region_held_drew (S := (fun w' => w'.cell? ⟨w1.heap.size, 0, none⟩ = some (.string (bs m)) ∧ w'.cell? ⟨w1.heap.size, 1, none⟩ = some (.int .i64 (a : Int)))) (by kernel_rfl) ⟨B5.out.c0, B5.out.c1⟩ (fun hHeld => ?_)
  refine wpAnyH_take (i := 0) (oi := ⟨some 18, _, _, _, _, _⟩) (v := ?_) rfl (by kernel_rfl) (by kernel_rfl) (by kernel_rfl) (fun _ _ _ h => h) (Or.inl ⟨by kernel_rfl, ?hy0⟩) (by assumption) ?_
  case hy0 => (intro w' hSw; (try dsimp only at hSw); go_simp; try with_reducible rfl)
  simp only [Act.put, List.setIfInBounds_toArray, List.set_cons_zero, List.set_cons_succ]
  refine wpAnyH_take (i := 1) (oi := ⟨some 19, _, _, _, _, _⟩) (v := ?_) rfl (by kernel_rfl) (by kernel_rfl) (by kernel_rfl) (fun _ _ _ h => h) (Or.inl ⟨by kernel_rfl, ?hy1⟩) (by assumption) ?_
  case hy1 => (intro w' hSw; (try dsimp only at hSw); go_simp; try with_reducible rfl)
  simp only [Act.put, List.setIfInBounds_toArray, List.set_cons_zero, List.set_cons_succ]
  refine wpAnyH_take (i := 2) (oi := ⟨some 20, _, _, _, _, _⟩) (v := ?_) rfl (by kernel_rfl) (by kernel_rfl) (by kernel_rfl) (fun _ _ _ h => h) (Or.inl ⟨by kernel_rfl, ?hy2⟩) (by assumption) ?_
  case hy2 => (intro w' hSw; (try dsimp only at hSw); go_simp; try with_reducible rfl)
  simp only [Act.put, List.setIfInBounds_toArray, List.set_cons_zero, List.set_cons_succ]
  refine wpAnyH_ready (rs := [3]) (by kernel_rfl) (by simp) ?_
  refine AllReadyH.cons (o := ⟨some 21, _, _, _, _, _⟩) rfl (fun K hK => ?_) AllReadyH.nil
  (rw [if_pos (by kernel_rfl)])
  go_simp
  (refine (thr_rev A c cs _ hR5 (by omega) (by omega)).mono ?_; rintro e w6 ⟨rfl, hb6⟩; have k6 := K5.out.trans (hb6.mono K5.out.size); have b6 := B5.out.below hb6)
  refine hK.out _ _ ⟨b6.c0, b6.c1⟩ (fun hHeld => ?_)
  clear hK K
  refine wpAnyH_take (i := 4) (oi := ⟨some 22, _, _, _, _, _⟩) (v := ?_) rfl (by kernel_rfl) (by kernel_rfl) (by kernel_rfl) (fun _ _ _ h => h) (Or.inl ⟨by kernel_rfl, ?hy4⟩) (by assumption) ?_
  case hy4 => (intro w' hSw; (try dsimp only at hSw); go_simp; try with_reducible rfl)
  simp only [Act.put, List.setIfInBounds_toArray, List.set_cons_zero, List.set_cons_succ]
  refine wpAnyH_take (i := 5) (oi := ⟨some 4, _, _, _, _, _⟩) (v := ?_) rfl (by kernel_rfl) (by kernel_rfl) (by kernel_rfl) (fun _ _ _ h => h) (Or.inl ⟨by kernel_rfl, ?hy5⟩) (by assumption) ?_
  case hy5 => (intro w' hSw; (try dsimp only at hSw); go_simp; try with_reducible rfl)
  simp only [Act.put, List.setIfInBounds_toArray, List.set_cons_zero, List.set_cons_succ]
  refine wpAnyH_done (by kernel_rfl) ?_ _
  have K6 := Lib.hid k6
  clear hHeld k6 b6 hb6 hR5
  go_wp2
  go_ret
  exact ⟨by rw [hwr.out]; go_num, K6.out⟩
end
section
open Go Go.RowKit
set_option maxRecDepth 100000
abbrev three (W : World) (M : Nat) (a b c : Value) : World := ((W.setCell ⟨M, 0, none⟩ a).setCell ⟨M, 1, none⟩ b).setCell ⟨M, 2, none⟩ c
theorem three_box {W : World} {M : Nat} {t : TypeId} {u v x : Value} (h : BxA W M t [u, v, x]) (a b c : Value) : BxA (three W M a b c) M t [a, b, c] := ((h.set 0 a).set 1 b).set 2 c
theorem three_only (W : World) (M : Nat) (a b c : Value) : Only (fun k => k = M) W (three W M a b c) := (((Only.refl (fun k => k = M) W).set (p := ⟨M, 0, none⟩) (.inl rfl) a).set (p := ⟨M, 1, none⟩) (.inl rfl) b).set (p := ⟨M, 2, none⟩) (.inl rfl) c
/-- What an act's call lays first. -/
theorem boxesA (w : World) (k : Int) (t : ByteArray) : ∃ W2, (w.alloc (.cells #[.int .i64 k, .string t] 42)).alloc (.cells #[.int .i64 0, .int .i64 0, .int .i64 0] 60) = W2 ∧ Below w.heap.size w W2 ∧ W2.heap.size = w.heap.size + 2 ∧ Bx W2 w.heap.size 42 (.int .i64 k) (.string t) ∧ BxA W2 (w.heap.size + 1) 60 [.int .i64 0, .int .i64 0, .int .i64 0] := by
  refine ⟨_, rfl, ((Below.refl _ w).alloc (Nat.le_refl _) _).alloc (by rw [World.size_alloc]; omega) _, by rw [World.size_alloc, World.size_alloc], (Bx.new w _ _ _).alloc _, ?_⟩
  have := BxA.new (w.alloc (.cells #[.int .i64 k, .string t] 42)) 60 [.int .i64 0, .int .i64 0, .int .i64 0]
  rwa [World.size_alloc] at this
/-- What stands behind an act's call. -/
theorem fin3 {w W2 Wi W3 : World} {O F : Nat → Prop} {b n : Nat} {s0 s' : LN} {t : TypeId} {z0 z1 z2 : Value} (h : LineL w O F b s0) (hB : Below w.heap.size w W2) (hn : w.heap.size ≤ n) (hs : n < W2.heap.size) (hd : BxA W2 n t [z0, z1, z2]) (hb : Below W2.heap.size W2 Wi) (ht : ToLn Wi O F W3 b s') :
    BxA W3 n t [z0, z1, z2] ∧ ∀ u0 u1 u2, ToLn w O F (three W3 n u0 u1 u2) b s' := by
  obtain ⟨O', F', a1, a2, a3, a4⟩ := ht
  have hno : ¬ O n := fun hk => by have := objLn.lt h _ (.inl hk); omega
  have hnf : ¬ F n := fun hk => by have := objLn.lt h _ (.inr hk); omega
  have hz := hb.size
  refine ⟨(hd.below hb).keep a2 hno, fun u0 u1 u2 => ?_⟩
  have ho := three_only W3 n u0 u1 u2
  refine ⟨O', F', objLn.keep a1 ho (fun k hk (e : k = n) => ?_), (((Only.of_below (hB.trans (hb.mono hB.size))).trans a2 (fun i e => .inl e)).trans ho (fun i (e : i = n) => .inr (by omega))), fun k hk => (a3 k hk).imp id (fun h => Nat.le_trans (hB.trans (hb.mono hB.size)).size h), fun k hk => (a4 k hk).imp id (fun h => Nat.le_trans (hB.trans (hb.mono hB.size)).size h)⟩
  subst e
  rcases hk with hk | hk
  · exact (a3 _ hk).elim hno (fun h => by omega)
  · exact (a4 _ hk).elim hnf (fun h => by omega)
theorem back_prv (l : List UInt8) (a : Nat) : backL l (prvL l a : Int) = prvL l a := IsB.back (isB_back l _)
theorem back_nxt (l : List UInt8) (a : Nat) : backL l (nxtL l a : Int) = nxtL l a := IsB.back (isB_on l _)
theorem isB_cut {l : List UInt8} {k : Nat} (hk : k ≤ (cutL l).length) : IsB l (pos (cutL l) k) := ⟨k, hk, rfl⟩
theorem Rt.wl {l : List UInt8} {a : Nat} (h : Rt l a) : IsB l (wlL l a) := by
  obtain ⟨k, hk, rfl⟩ := h.2.2
  rw [wlL_pos h.1 hk]
  exact isB_cut (by omega)
theorem Rt.wr {l : List UInt8} {a : Nat} (h : Rt l a) : IsB l (wrL l a) := by
  obtain ⟨k, hk, rfl⟩ := h.2.2
  rw [wrL_pos]
  exact isB_cut (by have := thrK_le ((cutL l).drop k); rw [List.length_drop] at this; omega)
end
section
open Go Go.RowKit
set_option maxRecDepth 100000
section
variable (w : World) (O F : Nat → Prop) (b : Nat) (s : LN)
set_option maxHeartbeats 2000000 in
theorem act_left (k0 : Int) (t : ByteArray) (h : LineL w O F b s) (hsp : Spans w) :
    Calls Tryz.prog 75 #[.pointer (some ⟨b, 0, none⟩), .agg #[.int .i64 k0, .string t]] w fun e w' => e = .returned (dV .none) ∧ ToLn w O F w' b ⟨mvL s.log (prvL s.buf.1 s.buf.2), s.ring, s.last⟩ := by
  obtain ⟨W2, hW2, hB2, hs2, hk2, hd2⟩ := boxesA w k0 t
  have HB2 := Lib.hid hB2
  have HN2 := Lib.hid hs2
  have HD2 := Lib.hid hd2
  have H := Lib.hid h
  have H2 := Lib.hid (objLn.below h hB2)
  have HS := Lib.hid hsp
  have hrt := (line_ok h).rt.1
  have hl6 : s.buf.1.length ≤ 137438953472 := Nat.le_trans hrt.2.1 (by decide)
  have e1 : mS s.buf.1 = s.buf.1 := hrt.make.1
  have e2 : mA s.buf.1 s.buf.2 = s.buf.2 := hrt.make.2
  have HQ := Lib.hid (fun W hS => prev_calls s.buf.1 s.buf.2 hl6 W hS)
  rw [e1, e2] at HQ
  have HI : Hid (IsB s.buf.1 (prvL s.buf.1 s.buf.2)) := Lib.hid (isB_back _ _)
  clear h hsp hB2 hs2 hk2 hd2 hrt hl6 e1 e2
  go_enter Tryz.func75, Tryz.ntmps75
  go_wp2_with fail
  refine (buf_callsL W2 O F b s H2.out (spans_below HS.out HB2.out)).mono ?_
  rintro e w3 ⟨rfl, hb3⟩
  have x3 := Bx.new w3 43 (.string ⟨#[]⟩) (.int .i64 0)
  have f0 := x3.f0
  have f1 := x3.f1
  have g0 := x3.c0
  have g1 := x3.c1
  have x4 := Bx.new w3 43 (.string (bs s.buf.1)) (.int .i64 (s.buf.2 : Int))
  have hb4 := hb3.alloc hb3.size (.cells #[.string (bs s.buf.1), .int .i64 (s.buf.2 : Int)] 43)
  obtain ⟨W4, hW4⟩ : ∃ W4, w3.alloc (.cells #[.string (bs s.buf.1), .int .i64 (s.buf.2 : Int)] 43) = W4 := ⟨_, rfl⟩
  rw [hW4] at x4 hb4
  have y0 := x4.c0
  have y1 := x4.c1
  have HB4 := Lib.hid hb4
  clear x3 x4 hb4
  go_wp2_with fail
  refine (HQ.out W4 (spans_below HS.out (HB2.out.trans (HB4.out.mono HB2.out.size)))).mono ?_
  rintro e w5 ⟨rfl, hb5⟩
  have HB5 := Lib.hid (HB4.out.trans (hb5.mono HB4.out.size))
  clear hb5 HQ y0 y1
  go_wp2_with fail
  refine (move_callsL w5 O F b s (objLn.below H2.out HB5.out) (spans_below HS.out (HB2.out.trans (HB5.out.mono HB2.out.size))) _ HI.out).mono ?_
  rintro e w7 ⟨rfl, ht⟩
  have hf := fin3 H.out HB2.out (Nat.le_add_right _ 1) (by have := HN2.out; omega) HD2.out HB5.out ht
  have HF := Lib.hid hf.2
  have hd9 := hf.1
  have q0 := hd9.c 0 rfl
  have q1 := hd9.c 1 rfl
  have q2 := hd9.c 2 rfl
  have p0 := hd9.free 0
  have p1 := hd9.free 1
  have p2 := hd9.free 2
  have HD9 := Lib.hid hd9
  clear hf hd9
  go_wp2_with fail
  refine bodyPost_ret (results_bx3 rfl _ _ (w.heap.size + 1) _ _ _ 60 rfl (three_box HD9.out _ _ _) Tryz.underlying60 (szD _)) rfl ?_
  exact ⟨rfl, HF.out _ _ _⟩
set_option maxHeartbeats 2000000 in
theorem act_right (k0 : Int) (t : ByteArray) (h : LineL w O F b s) (hsp : Spans w) :
    Calls Tryz.prog 76 #[.pointer (some ⟨b, 0, none⟩), .agg #[.int .i64 k0, .string t]] w fun e w' => e = .returned (dV .none) ∧ ToLn w O F w' b ⟨mvL s.log (nxtL s.buf.1 s.buf.2), s.ring, s.last⟩ := by
  obtain ⟨W2, hW2, hB2, hs2, hk2, hd2⟩ := boxesA w k0 t
  have HB2 := Lib.hid hB2
  have HN2 := Lib.hid hs2
  have HD2 := Lib.hid hd2
  have H := Lib.hid h
  have H2 := Lib.hid (objLn.below h hB2)
  have HS := Lib.hid hsp
  have hrt := (line_ok h).rt.1
  have hl6 : s.buf.1.length ≤ 137438953472 := Nat.le_trans hrt.2.1 (by decide)
  have e1 : mS s.buf.1 = s.buf.1 := hrt.make.1
  have e2 : mA s.buf.1 s.buf.2 = s.buf.2 := hrt.make.2
  have HQ := Lib.hid (fun W hS => next_callsT s.buf.1 s.buf.2 hl6 W hS)
  rw [e1, e2] at HQ
  have HI : Hid (IsB s.buf.1 (nxtL s.buf.1 s.buf.2)) := Lib.hid (isB_on _ _)
  clear h hsp hB2 hs2 hk2 hd2 hrt hl6 e1 e2
  go_enter Tryz.func76, Tryz.ntmps76
  go_wp2_with fail
  refine (buf_callsL W2 O F b s H2.out (spans_below HS.out HB2.out)).mono ?_
  rintro e w3 ⟨rfl, hb3⟩
  have x3 := Bx.new w3 43 (.string ⟨#[]⟩) (.int .i64 0)
  have f0 := x3.f0
  have f1 := x3.f1
  have g0 := x3.c0
  have g1 := x3.c1
  have x4 := Bx.new w3 43 (.string (bs s.buf.1)) (.int .i64 (s.buf.2 : Int))
  have hb4 := hb3.alloc hb3.size (.cells #[.string (bs s.buf.1), .int .i64 (s.buf.2 : Int)] 43)
  obtain ⟨W4, hW4⟩ : ∃ W4, w3.alloc (.cells #[.string (bs s.buf.1), .int .i64 (s.buf.2 : Int)] 43) = W4 := ⟨_, rfl⟩
  rw [hW4] at x4 hb4
  have y0 := x4.c0
  have y1 := x4.c1
  have HB4 := Lib.hid hb4
  clear x3 x4 hb4
  go_wp2_with fail
  refine (HQ.out W4 (spans_below HS.out (HB2.out.trans (HB4.out.mono HB2.out.size)))).mono ?_
  rintro e w5 ⟨rfl, hb5⟩
  have HB5 := Lib.hid (HB4.out.trans (hb5.mono HB4.out.size))
  clear hb5 HQ y0 y1
  go_wp2_with fail
  refine (move_callsL w5 O F b s (objLn.below H2.out HB5.out) (spans_below HS.out (HB2.out.trans (HB5.out.mono HB2.out.size))) _ HI.out).mono ?_
  rintro e w7 ⟨rfl, ht⟩
  have hf := fin3 H.out HB2.out (Nat.le_add_right _ 1) (by have := HN2.out; omega) HD2.out HB5.out ht
  have HF := Lib.hid hf.2
  have hd9 := hf.1
  have q0 := hd9.c 0 rfl
  have q1 := hd9.c 1 rfl
  have q2 := hd9.c 2 rfl
  have p0 := hd9.free 0
  have p1 := hd9.free 1
  have p2 := hd9.free 2
  have HD9 := Lib.hid hd9
  clear hf hd9
  go_wp2_with fail
  refine bodyPost_ret (results_bx3 rfl _ _ (w.heap.size + 1) _ _ _ 60 rfl (three_box HD9.out _ _ _) Tryz.underlying60 (szD _)) rfl ?_
  exact ⟨rfl, HF.out _ _ _⟩
set_option maxHeartbeats 2000000 in
theorem act_wordLeft (k0 : Int) (t : ByteArray) (h : LineL w O F b s) (hsp : Spans w) :
    Calls Tryz.prog 79 #[.pointer (some ⟨b, 0, none⟩), .agg #[.int .i64 k0, .string t]] w fun e w' => e = .returned (dV .none) ∧ ToLn w O F w' b ⟨mvL s.log (wlL s.buf.1 s.buf.2), s.ring, s.last⟩ := by
  obtain ⟨W2, hW2, hB2, hs2, hk2, hd2⟩ := boxesA w k0 t
  have HB2 := Lib.hid hB2
  have HN2 := Lib.hid hs2
  have HD2 := Lib.hid hd2
  have H := Lib.hid h
  have H2 := Lib.hid (objLn.below h hB2)
  have HS := Lib.hid hsp
  have hrt := (line_ok h).rt.1
  have hl6 : s.buf.1.length ≤ 137438953472 := Nat.le_trans hrt.2.1 (by decide)
  have e1 : mS s.buf.1 = s.buf.1 := hrt.make.1
  have e2 : mA s.buf.1 s.buf.2 = s.buf.2 := hrt.make.2
  have HQ := Lib.hid (fun W hS => wordLeft_calls s.buf.1 s.buf.2 hl6 W hS)
  rw [e1, e2] at HQ
  have HI : Hid (IsB s.buf.1 (wlL s.buf.1 s.buf.2)) := Lib.hid (hrt.wl)
  clear h hsp hB2 hs2 hk2 hd2 hrt hl6 e1 e2
  go_enter Tryz.func79, Tryz.ntmps79
  go_wp2_with fail
  refine (buf_callsL W2 O F b s H2.out (spans_below HS.out HB2.out)).mono ?_
  rintro e w3 ⟨rfl, hb3⟩
  have x3 := Bx.new w3 43 (.string ⟨#[]⟩) (.int .i64 0)
  have f0 := x3.f0
  have f1 := x3.f1
  have g0 := x3.c0
  have g1 := x3.c1
  have x4 := Bx.new w3 43 (.string (bs s.buf.1)) (.int .i64 (s.buf.2 : Int))
  have hb4 := hb3.alloc hb3.size (.cells #[.string (bs s.buf.1), .int .i64 (s.buf.2 : Int)] 43)
  obtain ⟨W4, hW4⟩ : ∃ W4, w3.alloc (.cells #[.string (bs s.buf.1), .int .i64 (s.buf.2 : Int)] 43) = W4 := ⟨_, rfl⟩
  rw [hW4] at x4 hb4
  have y0 := x4.c0
  have y1 := x4.c1
  have HB4 := Lib.hid hb4
  clear x3 x4 hb4
  go_wp2_with fail
  refine (HQ.out W4 (spans_below HS.out (HB2.out.trans (HB4.out.mono HB2.out.size)))).mono ?_
  rintro e w5 ⟨rfl, hb5⟩
  have HB5 := Lib.hid (HB4.out.trans (hb5.mono HB4.out.size))
  clear hb5 HQ y0 y1
  go_wp2_with fail
  refine (move_callsL w5 O F b s (objLn.below H2.out HB5.out) (spans_below HS.out (HB2.out.trans (HB5.out.mono HB2.out.size))) _ HI.out).mono ?_
  rintro e w7 ⟨rfl, ht⟩
  have hf := fin3 H.out HB2.out (Nat.le_add_right _ 1) (by have := HN2.out; omega) HD2.out HB5.out ht
  have HF := Lib.hid hf.2
  have hd9 := hf.1
  have q0 := hd9.c 0 rfl
  have q1 := hd9.c 1 rfl
  have q2 := hd9.c 2 rfl
  have p0 := hd9.free 0
  have p1 := hd9.free 1
  have p2 := hd9.free 2
  have HD9 := Lib.hid hd9
  clear hf hd9
  go_wp2_with fail
  refine bodyPost_ret (results_bx3 rfl _ _ (w.heap.size + 1) _ _ _ 60 rfl (three_box HD9.out _ _ _) Tryz.underlying60 (szD _)) rfl ?_
  exact ⟨rfl, HF.out _ _ _⟩
set_option maxHeartbeats 2000000 in
theorem act_wordRight (k0 : Int) (t : ByteArray) (h : LineL w O F b s) (hsp : Spans w) :
    Calls Tryz.prog 80 #[.pointer (some ⟨b, 0, none⟩), .agg #[.int .i64 k0, .string t]] w fun e w' => e = .returned (dV .none) ∧ ToLn w O F w' b ⟨mvL s.log (wrL s.buf.1 s.buf.2), s.ring, s.last⟩ := by
  obtain ⟨W2, hW2, hB2, hs2, hk2, hd2⟩ := boxesA w k0 t
  have HB2 := Lib.hid hB2
  have HN2 := Lib.hid hs2
  have HD2 := Lib.hid hd2
  have H := Lib.hid h
  have H2 := Lib.hid (objLn.below h hB2)
  have HS := Lib.hid hsp
  have hrt := (line_ok h).rt.1
  have hl6 : s.buf.1.length ≤ 137438953472 := Nat.le_trans hrt.2.1 (by decide)
  have e1 : mS s.buf.1 = s.buf.1 := hrt.make.1
  have e2 : mA s.buf.1 s.buf.2 = s.buf.2 := hrt.make.2
  have HQ := Lib.hid (fun W hS => wordRight_calls s.buf.1 s.buf.2 hl6 W hS)
  rw [e1, e2] at HQ
  have HI : Hid (IsB s.buf.1 (wrL s.buf.1 s.buf.2)) := Lib.hid (hrt.wr)
  clear h hsp hB2 hs2 hk2 hd2 hrt hl6 e1 e2
  go_enter Tryz.func80, Tryz.ntmps80
  go_wp2_with fail
  refine (buf_callsL W2 O F b s H2.out (spans_below HS.out HB2.out)).mono ?_
  rintro e w3 ⟨rfl, hb3⟩
  have x3 := Bx.new w3 43 (.string ⟨#[]⟩) (.int .i64 0)
  have f0 := x3.f0
  have f1 := x3.f1
  have g0 := x3.c0
  have g1 := x3.c1
  have x4 := Bx.new w3 43 (.string (bs s.buf.1)) (.int .i64 (s.buf.2 : Int))
  have hb4 := hb3.alloc hb3.size (.cells #[.string (bs s.buf.1), .int .i64 (s.buf.2 : Int)] 43)
  obtain ⟨W4, hW4⟩ : ∃ W4, w3.alloc (.cells #[.string (bs s.buf.1), .int .i64 (s.buf.2 : Int)] 43) = W4 := ⟨_, rfl⟩
  rw [hW4] at x4 hb4
  have y0 := x4.c0
  have y1 := x4.c1
  have HB4 := Lib.hid hb4
  clear x3 x4 hb4
  go_wp2_with fail
  refine (HQ.out W4 (spans_below HS.out (HB2.out.trans (HB4.out.mono HB2.out.size)))).mono ?_
  rintro e w5 ⟨rfl, hb5⟩
  have HB5 := Lib.hid (HB4.out.trans (hb5.mono HB4.out.size))
  clear hb5 HQ y0 y1
  go_wp2_with fail
  refine (move_callsL w5 O F b s (objLn.below H2.out HB5.out) (spans_below HS.out (HB2.out.trans (HB5.out.mono HB2.out.size))) _ HI.out).mono ?_
  rintro e w7 ⟨rfl, ht⟩
  have hf := fin3 H.out HB2.out (Nat.le_add_right _ 1) (by have := HN2.out; omega) HD2.out HB5.out ht
  have HF := Lib.hid hf.2
  have hd9 := hf.1
  have q0 := hd9.c 0 rfl
  have q1 := hd9.c 1 rfl
  have q2 := hd9.c 2 rfl
  have p0 := hd9.free 0
  have p1 := hd9.free 1
  have p2 := hd9.free 2
  have HD9 := Lib.hid hd9
  clear hf hd9
  go_wp2_with fail
  refine bodyPost_ret (results_bx3 rfl _ _ (w.heap.size + 1) _ _ _ 60 rfl (three_box HD9.out _ _ _) Tryz.underlying60 (szD _)) rfl ?_
  exact ⟨rfl, HF.out _ _ _⟩
set_option maxHeartbeats 2000000 in
theorem act_home (k0 : Int) (t : ByteArray) (h : LineL w O F b s) (hsp : Spans w) :
    Calls Tryz.prog 77 #[.pointer (some ⟨b, 0, none⟩), .agg #[.int .i64 k0, .string t]] w fun e w' => e = .returned (dV .none) ∧ ToLn w O F w' b ⟨mvL s.log 0, s.ring, s.last⟩ := by
  obtain ⟨W2, hW2, hB2, hs2, hk2, hd2⟩ := boxesA w k0 t
  have HB2 := Lib.hid hB2
  have HN2 := Lib.hid hs2
  have HD2 := Lib.hid hd2
  have H := Lib.hid h
  have H2 := Lib.hid (objLn.below h hB2)
  have HS := Lib.hid hsp
  have hrt := (line_ok h).rt.1
  have hl6 : s.buf.1.length ≤ 137438953472 := Nat.le_trans hrt.2.1 (by decide)
  have e1 : mS s.buf.1 = s.buf.1 := hrt.make.1
  have e2 : mA s.buf.1 s.buf.2 = s.buf.2 := hrt.make.2
  clear h hsp hB2 hs2 hk2 hd2 hrt hl6 e1 e2
  go_enter Tryz.func77, Tryz.ntmps77
  go_wp2_with fail
  refine (move_callsL W2 O F b s (objLn.below H2.out (Below.refl _ W2)) (spans_below HS.out (HB2.out.trans ((Below.refl _ W2).mono HB2.out.size))) 0 (isB_zero _)).mono ?_
  rintro e w7 ⟨rfl, ht⟩
  have hf := fin3 H.out HB2.out (Nat.le_add_right _ 1) (by have := HN2.out; omega) HD2.out (Below.refl _ W2) ht
  have HF := Lib.hid hf.2
  have hd9 := hf.1
  have q0 := hd9.c 0 rfl
  have q1 := hd9.c 1 rfl
  have q2 := hd9.c 2 rfl
  have p0 := hd9.free 0
  have p1 := hd9.free 1
  have p2 := hd9.free 2
  have HD9 := Lib.hid hd9
  clear hf hd9
  go_wp2_with fail
  refine bodyPost_ret (results_bx3 rfl _ _ (w.heap.size + 1) _ _ _ 60 rfl (three_box HD9.out _ _ _) Tryz.underlying60 (szD _)) rfl ?_
  exact ⟨rfl, HF.out _ _ _⟩
set_option maxHeartbeats 2000000 in
theorem act_end (k0 : Int) (t : ByteArray) (h : LineL w O F b s) (hsp : Spans w) :
    Calls Tryz.prog 78 #[.pointer (some ⟨b, 0, none⟩), .agg #[.int .i64 k0, .string t]] w fun e w' => e = .returned (dV .none) ∧ ToLn w O F w' b ⟨mvL s.log s.buf.1.length, s.ring, s.last⟩ := by
  obtain ⟨W2, hW2, hB2, hs2, hk2, hd2⟩ := boxesA w k0 t
  have HB2 := Lib.hid hB2
  have HN2 := Lib.hid hs2
  have HD2 := Lib.hid hd2
  have H := Lib.hid h
  have H2 := Lib.hid (objLn.below h hB2)
  have HS := Lib.hid hsp
  have hrt := (line_ok h).rt.1
  have hl6 : s.buf.1.length ≤ 137438953472 := Nat.le_trans hrt.2.1 (by decide)
  have e1 : mS s.buf.1 = s.buf.1 := hrt.make.1
  have e2 : mA s.buf.1 s.buf.2 = s.buf.2 := hrt.make.2
  have hsz := bs_size s.buf.1
  clear h hsp hB2 hs2 hk2 hd2 hrt hl6 e1 e2
  go_enter Tryz.func78, Tryz.ntmps78
  go_wp2_with fail
  refine (buf_callsL W2 O F b s H2.out (spans_below HS.out HB2.out)).mono ?_
  rintro e w3 ⟨rfl, hb3⟩
  have HB3 := Lib.hid hb3
  clear hb3
  have fb := field_buf0L (.string (bs s.buf.1)) (.int .i64 (s.buf.2 : Int))
  go_wp2_with fail
  refine (move_callsL w3 O F b s (objLn.below H2.out HB3.out) (spans_below HS.out (HB2.out.trans (HB3.out.mono HB2.out.size))) _ (isB_all _)).mono ?_
  rintro e w7 ⟨rfl, ht⟩
  have hf := fin3 H.out HB2.out (Nat.le_add_right _ 1) (by have := HN2.out; omega) HD2.out HB3.out ht
  have HF := Lib.hid hf.2
  have hd9 := hf.1
  have q0 := hd9.c 0 rfl
  have q1 := hd9.c 1 rfl
  have q2 := hd9.c 2 rfl
  have p0 := hd9.free 0
  have p1 := hd9.free 1
  have p2 := hd9.free 2
  have HD9 := Lib.hid hd9
  clear hf hd9
  go_wp2_with fail
  refine bodyPost_ret (results_bx3 rfl _ _ (w.heap.size + 1) _ _ _ 60 rfl (three_box HD9.out _ _ _) Tryz.underlying60 (szD _)) rfl ?_
  exact ⟨rfl, HF.out _ _ _⟩
end
end
end Go.Proofs.YtoaponaljkhlfaaGreatDoor
