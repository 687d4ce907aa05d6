/-
  Layer 7 and what it stands on, part 33 (Rights).
-/
import Derived.Test.YtlmbafnoopfilaaGreatDoorPg22
import Derived.Test.YtlmbafnoopfilaaGreatDoorPg32
import Derived.Deep.RegionHeld3
import Derived.Deep.DrawnRows
import Derived.BigQuiet
namespace Go.Proofs.YtlmbafnoopfilaaGreatDoor
section
open Go Go.RowKit
attribute [local go_sem ↓] Go.wp_at_zero Go.wp_at_succ
/-- Is n one of the bounds? -/
def isBB (l : List UInt8) (n : Int) : Bool := ((boundsL l).map fun (x : Nat) => (x : Int)).contains n
theorem isBB_iff (l : List UInt8) (n : Int) : isBB l n = true ↔ 0 ≤ n ∧ n ≤ (l.length : Int) ∧ (backL l n : Int) = n := by
  unfold isBB
  rw [List.contains_iff_mem, List.mem_map]
  constructor
  · rintro ⟨m, hm, rfl⟩
    have h := (isB_mem l m).1 hm
    exact ⟨by omega, by have := h.le; omega, by rw [h.back]⟩
  · rintro ⟨h0, h1, h2⟩
    exact ⟨backL l n, (isB_mem l _).2 (isB_back l n), h2⟩
/-- Is it a right line? -/
def rightB (l : List UInt8) (n : Int) : Bool := decide (l.length ≤ 600) && (decide (plainL l = l) && isBB l n)
theorem rt_right {l : List UInt8} {n : Nat} (h : Rt l n) : rightB l (n : Int) = true := by
  unfold rightB
  rw [decide_eq_true h.2.1, decide_eq_true h.1.plain, (isBB_iff l n).2 ⟨by omega, by have := h.2.2.le; omega, by rw [h.2.2.back]⟩]
  rfl
theorem bounds_posI (l : List UInt8) (hl : l.length ≤ 1099511627776) (w : World) (hsp : Spans w) :
    Calls Tryz.prog 27 #[.string (bs l)] w fun e w' => ∃ (g o c : Nat), e = .returned (.slice (some ⟨g, o, none⟩) (boundsL l).length c) ∧ (∀ j, j < ((boundsL l).map fun (x : Nat) => (x : Int)).length → w'.cell? ⟨g, o + j, none⟩ = some (.int .i64 (((boundsL l).map fun (x : Nat) => (x : Int)).getD j 0))) ∧ Below w.heap.size w w' := by
  refine (bounds_rd l hl w hsp).mono ?_
  rintro e w' ⟨A, c, rfl, hR, hb⟩
  have hlen : (boundsL l).length = (cutL l).length + 1 := bnd_length _ _
  obtain ⟨g, o, rfl, _, hc⟩ := hR (by omega)
  refine ⟨g, o, c, rfl, fun j hj => ?_, hb⟩
  rw [List.length_map] at hj
  rw [hc j hj]
  simp [List.getD, hj]
theorem bounds_len (l : List UInt8) : (boundsL l).length ≤ l.length + 1 := by
  have h1 : (boundsL l).length = (cutL l).length + 1 := bnd_length _ _
  have h2 := cutL_length l
  omega
set_option maxHeartbeats 4000000 in
theorem right_long (l : List UInt8) (n : Int) (hl : l.length ≤ 9223372036854775807) (w : World) (h6 : 600 < l.length) :
    Calls Tryz.prog 9 #[.agg #[.string (bs l), .int .i64 n]] w fun e w' => e = .returned (.bool (rightB l n)) ∧ Below w.heap.size w w' := by
  have hr : rightB l n = false := by unfold rightB; rw [decide_eq_false (by omega)]; rfl
  rw [hr]
  have hsz := bs_size l
  have hd : decide ((l.length : Int) ≤ 600) = false := decide_eq_false (by omega)
  have b0 := Bx.new w 36 (.string (bs l)) (.int .i64 n)
  have c0 := b0.c0
  go_enter Tryz.func9, Tryz.ntmps9
  go_wp2_with fail
  go_quiet (fail)
  go_wp2
  go_ret
  exact ⟨rfl, bel_drewN ((Below.refl _ w).alloc (Nat.le_refl _) _) _⟩
set_option maxHeartbeats 4000000 in
theorem right_other (l : List UInt8) (n : Int) (w : World) (h6 : l.length ≤ 600) (hp : plainL l ≠ l) :
    Calls Tryz.prog 9 #[.agg #[.string (bs l), .int .i64 n]] w fun e w' => e = .returned (.bool (rightB l n)) ∧ Below w.heap.size w w' := by
  have hr : rightB l n = false := by unfold rightB; rw [decide_eq_false hp, Bool.false_and, Bool.and_false]
  rw [hr]
  have hsz := bs_size l
  have hd : decide ((l.length : Int) ≤ 600) = true := decide_eq_true (by omega)
  have k0 : Below w.heap.size w (w.alloc (.cells #[.string (bs l), .int .i64 n] 36)) := (Below.refl _ w).alloc (Nat.le_refl _) _
  have b0 := Bx.new w 36 (.string (bs l)) (.int .i64 n)
  have c00 := b0.c0
  have c01 := b0.c1
  have HP := Lib.hid (fun W => plain_calls l (by omega) W)
  have hlp : (l == plainL l) = false := beq_eq_false_iff_ne.2 (fun h => hp h.symm)
  clear hr hp
  generalize plainL l = p at *
  go_enter Tryz.func9, Tryz.ntmps9
  go_wp2_with fail
  refine wp_region_held_drew (S := (fun w' => w'.cell? ⟨w.heap.size, 0, none⟩ = some (.string (bs l)) ∧ w'.cell? ⟨w.heap.size, 1, none⟩ = some (.int .i64 n))) (by kernel_rfl) ⟨c00, c01⟩ (fun hHeld => ?_)
  refine wpAnyH_take (i := 0) (oi := ⟨some 3, _, _, _, _, _⟩) (v := ?_) rfl (by kernel_rfl) (by kernel_rfl) (by kernel_rfl) (fun _ _ _ h => h) (Or.inl ⟨by kernel_rfl, ?hy0⟩) (by assumption) ?_
  case hy0 => (intro w' hSw; (try dsimp only at hSw); go_simp; try with_reducible rfl)
  simp only [Act.put, List.setIfInBounds_toArray, List.set_cons_zero, List.set_cons_succ]
  refine wpAnyH_take (i := 1) (oi := ⟨some 4, _, _, _, _, _⟩) (v := ?_) rfl (by kernel_rfl) (by kernel_rfl) (by kernel_rfl) (fun _ _ _ h => h) (Or.inl ⟨by kernel_rfl, ?hy1⟩) (by assumption) ?_
  case hy1 => (intro w' hSw; (try dsimp only at hSw); go_simp; try with_reducible rfl)
  simp only [Act.put, List.setIfInBounds_toArray, List.set_cons_zero, List.set_cons_succ]
  refine wpAnyH_take (i := 2) (oi := ⟨some 5, _, _, _, _, _⟩) (v := ?_) rfl (by kernel_rfl) (by kernel_rfl) (by kernel_rfl) (fun _ _ _ h => h) (Or.inl ⟨by kernel_rfl, ?hy2⟩) (by assumption) ?_
  case hy2 => (intro w' hSw; (try dsimp only at hSw); go_simp; try with_reducible rfl)
  simp only [Act.put, List.setIfInBounds_toArray, List.set_cons_zero, List.set_cons_succ]
  refine wpAnyH_take (i := 3) (oi := ⟨some 6, _, _, _, _, _⟩) (v := ?_) rfl (by kernel_rfl) (by kernel_rfl) (by kernel_rfl) (fun _ _ _ h => h) (Or.inl ⟨by kernel_rfl, ?hy3⟩) (by assumption) ?_
  case hy3 => (intro w' hSw; (try dsimp only at hSw); go_simp; try with_reducible rfl)
  simp only [Act.put, List.setIfInBounds_toArray, List.set_cons_zero, List.set_cons_succ]
  refine wpAnyH_take (i := 4) (oi := ⟨some 7, _, _, _, _, _⟩) (v := ?_) rfl (by kernel_rfl) (by kernel_rfl) (by kernel_rfl) (fun _ _ _ h => h) (Or.inl ⟨by kernel_rfl, ?hy4⟩) (by assumption) ?_
  case hy4 => (intro w' hSw; (try dsimp only at hSw); go_simp; try with_reducible rfl)
  simp only [Act.put, List.setIfInBounds_toArray, List.set_cons_zero, List.set_cons_succ]
  refine wpAnyH_take (i := 5) (oi := ⟨some 8, _, _, _, _, _⟩) (v := ?_) rfl (by kernel_rfl) (by kernel_rfl) (by kernel_rfl) (fun _ _ _ h => h) (Or.inl ⟨by kernel_rfl, ?hy5⟩) (by assumption) ?_
  case hy5 => (intro w' hSw; (try dsimp only at hSw); go_simp; try with_reducible rfl)
  simp only [Act.put, List.setIfInBounds_toArray, List.set_cons_zero, List.set_cons_succ]
  refine wpAnyH_take (i := 6) (oi := ⟨some 9, _, _, _, _, _⟩) (v := ?_) rfl (by kernel_rfl) (by kernel_rfl) (by kernel_rfl) (fun _ _ _ h => h) (Or.inl ⟨by kernel_rfl, ?hy6⟩) (by assumption) ?_
  case hy6 => (intro w' hSw; (try dsimp only at hSw); go_simp; try with_reducible rfl)
  simp only [Act.put, List.setIfInBounds_toArray, List.set_cons_zero, List.set_cons_succ]
  refine wpAnyH_take (i := 7) (oi := ⟨some 10, _, _, _, _, _⟩) (v := ?_) rfl (by kernel_rfl) (by kernel_rfl) (by kernel_rfl) (fun _ _ _ h => h) (Or.inl ⟨by kernel_rfl, ?hy7⟩) (by assumption) ?_
  case hy7 => (intro w' hSw; (try dsimp only at hSw); go_simp; try with_reducible rfl)
  simp only [Act.put, List.setIfInBounds_toArray, List.set_cons_zero, List.set_cons_succ]
  refine wpAnyH_take (i := 8) (oi := ⟨some 11, _, _, _, _, _⟩) (v := ?_) rfl (by kernel_rfl) (by kernel_rfl) (by kernel_rfl) (fun _ _ _ h => h) (Or.inl ⟨by kernel_rfl, ?hy8⟩) (by assumption) ?_
  case hy8 => (intro w' hSw; (try dsimp only at hSw); go_simp; try with_reducible rfl)
  simp only [Act.put, List.setIfInBounds_toArray, List.set_cons_zero, List.set_cons_succ]
  refine wpAnyH_ready (rs := [9]) (by kernel_rfl) (by simp) ?_
  refine AllReadyH.cons (o := ⟨some 12, _, _, _, _, _⟩) rfl (fun K hK => ?_) AllReadyH.nil
  (rw [if_pos (by kernel_rfl)])
  go_simp
  (refine (HP.out _).mono ?_; rintro e w1 ⟨rfl, hb1⟩; have k1 := k0.drew.trans (hb1.mono k0.drew.size); have b1 := b0.drew.below hb1; have c10 := b1.c0; have c11 := b1.c1)
  refine hK.out _ _ ⟨c10, c11⟩ (fun hHeld => ?_)
  clear hK K
  refine wpAnyH_take (i := 10) (oi := ⟨some 13, _, _, _, _, _⟩) (v := ?_) rfl (by kernel_rfl) (by kernel_rfl) (by kernel_rfl) (fun _ _ _ h => h) (Or.inl ⟨by kernel_rfl, ?hy10⟩) (by assumption) ?_
  case hy10 => (intro w' hSw; (try dsimp only at hSw); go_simp; try with_reducible rfl)
  simp only [Act.put, List.setIfInBounds_toArray, List.set_cons_zero, List.set_cons_succ]
  refine wpAnyH_take (i := 11) (oi := ⟨some 14, _, _, _, _, _⟩) (v := ?_) rfl (by kernel_rfl) (by kernel_rfl) (by kernel_rfl) (fun _ _ _ h => h) (Or.inl ⟨by kernel_rfl, ?hy11⟩) (by assumption) ?_
  case hy11 => (intro w' hSw; (try dsimp only at hSw); go_simp; try with_reducible rfl)
  simp only [Act.put, List.setIfInBounds_toArray, List.set_cons_zero, List.set_cons_succ]
  refine wpAnyH_take (i := 12) (oi := ⟨some 15, _, _, _, _, _⟩) (v := ?_) rfl (by kernel_rfl) (by kernel_rfl) (by kernel_rfl) (fun _ _ _ h => h) (Or.inl ⟨by kernel_rfl, ?hy12⟩) (by assumption) ?_
  case hy12 => (intro w' hSw; (try dsimp only at hSw); go_simp; try with_reducible rfl)
  simp only [Act.put, List.setIfInBounds_toArray, List.set_cons_zero, List.set_cons_succ]
  refine wpAnyH_take (i := 13) (oi := ⟨some 16, _, _, _, _, _⟩) (v := undef) rfl (by kernel_rfl) (by kernel_rfl) (by kernel_rfl) (fun _ _ _ h => h) (Or.inr ⟨by kernel_rfl, rfl⟩) (by assumption) ?_
  simp only [Act.put, List.setIfInBounds_toArray, List.set_cons_zero, List.set_cons_succ]
  refine wpAnyH_take (i := 14) (oi := ⟨some 17, _, _, _, _, _⟩) (v := undef) rfl (by kernel_rfl) (by kernel_rfl) (by kernel_rfl) (fun _ _ _ h => h) (Or.inr ⟨by kernel_rfl, rfl⟩) (by assumption) ?_
  simp only [Act.put, List.setIfInBounds_toArray, List.set_cons_zero, List.set_cons_succ]
  refine wpAnyH_take (i := 15) (oi := ⟨some 18, _, _, _, _, _⟩) (v := undef) rfl (by kernel_rfl) (by kernel_rfl) (by kernel_rfl) (fun _ _ _ h => h) (Or.inr ⟨by kernel_rfl, rfl⟩) (by assumption) ?_
  simp only [Act.put, List.setIfInBounds_toArray, List.set_cons_zero, List.set_cons_succ]
  refine wpAnyH_take (i := 16) (oi := ⟨some 19, _, _, _, _, _⟩) (v := undef) rfl (by kernel_rfl) (by kernel_rfl) (by kernel_rfl) (fun _ _ _ h => h) (Or.inr ⟨by kernel_rfl, rfl⟩) (by assumption) ?_
  simp only [Act.put, List.setIfInBounds_toArray, List.set_cons_zero, List.set_cons_succ]
  refine wpAnyH_take (i := 17) (oi := ⟨some 20, _, _, _, _, _⟩) (v := undef) rfl (by kernel_rfl) (by kernel_rfl) (by kernel_rfl) (fun _ _ _ h => h) (Or.inr ⟨by kernel_rfl, rfl⟩) (by assumption) ?_
  simp only [Act.put, List.setIfInBounds_toArray, List.set_cons_zero, List.set_cons_succ]
  refine wpAnyH_take (i := 18) (oi := ⟨some 21, _, _, _, _, _⟩) (v := undef) rfl (by kernel_rfl) (by kernel_rfl) (by kernel_rfl) (fun _ _ _ h => h) (Or.inr ⟨by kernel_rfl, rfl⟩) (by assumption) ?_
  simp only [Act.put, List.setIfInBounds_toArray, List.set_cons_zero, List.set_cons_succ]
  refine wpAnyH_take (i := 19) (oi := ⟨some 22, _, _, _, _, _⟩) (v := ?_) rfl (by kernel_rfl) (by kernel_rfl) (by kernel_rfl) (fun _ _ _ h => h) (Or.inl ⟨by kernel_rfl, ?hy19⟩) (by assumption) ?_
  case hy19 => (intro w' hSw; (try dsimp only at hSw); go_simp; try with_reducible rfl)
  simp only [Act.put, List.setIfInBounds_toArray, List.set_cons_zero, List.set_cons_succ]
  refine wpAnyH_take (i := 20) (oi := ⟨some 2, _, _, _, _, _⟩) (v := ?_) rfl (by kernel_rfl) (by kernel_rfl) (by kernel_rfl) (fun _ _ _ h => h) (Or.inl ⟨by kernel_rfl, ?hy20⟩) (by assumption) ?_
  case hy20 => (intro w' hSw; (try dsimp only at hSw); go_simp; try with_reducible rfl)
  simp only [Act.put, List.setIfInBounds_toArray, List.set_cons_zero, List.set_cons_succ]
  refine wpAnyH_done (by kernel_rfl) ?_ _
  all_goals
    go_wp2
    go_ret
    exact ⟨rfl, by assumption⟩
set_option maxHeartbeats 4000000 in
theorem right_plain (l : List UInt8) (n : Int) (w : World) (h6 : l.length ≤ 600) (hp : plainL l = l) (hsp : Spans w) :
    Calls Tryz.prog 9 #[.agg #[.string (bs l), .int .i64 n]] w fun e w' => e = .returned (.bool (rightB l n)) ∧ Below w.heap.size w w' := by
  have hr : rightB l n = isBB l n := by unfold rightB; rw [decide_eq_true h6, decide_eq_true hp]; rfl
  rw [hr]
  have hsz := bs_size l
  have hd : decide ((l.length : Int) ≤ 600) = true := decide_eq_true (by omega)
  have k0 : Below w.heap.size w (w.alloc (.cells #[.string (bs l), .int .i64 n] 36)) := (Below.refl _ w).alloc (Nat.le_refl _) _
  have b0 := Bx.new w 36 (.string (bs l)) (.int .i64 n)
  have c00 := b0.c0
  have c01 := b0.c1
  have HP := Lib.hid (fun W => plain_calls l (by omega) W)
  have HB := Lib.hid (fun W h => bounds_posI l (by omega) W h)
  have Hsp := Lib.hid hsp
  have hbl := bounds_len l
  have Hb : Hid (isBB l n = (((boundsL l).map fun (x : Nat) => (x : Int)).take (boundsL l).length).contains n) := Lib.hid (by
    rw [List.take_of_length_le (by rw [List.length_map]; exact Nat.le_refl _)]; rfl)
  have HL : Hid (((boundsL l).map fun (x : Nat) => (x : Int)).length = (boundsL l).length) := Lib.hid (List.length_map _)
  clear hr hsp
  rw [hp] at HP
  generalize isBB l n = r at *
  generalize (boundsL l).map (fun (x : Nat) => (x : Int)) = zs at *
  generalize (boundsL l).length = m at *
  clear hp
  go_enter Tryz.func9, Tryz.ntmps9
  go_wp2_with fail
  go_region_held3 (fun w' => w'.cell? ⟨w.heap.size, 0, none⟩ = some (.string (bs l)) ∧ w'.cell? ⟨w.heap.size, 1, none⟩ = some (.int .i64 n)) (first | exact ⟨c00, c01⟩ | exact ⟨c10, c11⟩ | exact ⟨c20, c21⟩)
    (first | (go_at_call 25; refine (HP.out _).mono ?_; rintro e w1 ⟨rfl, hb1⟩; have k1 := k0.drew.trans (hb1.mono k0.drew.size); have b1 := b0.drew.below hb1; have c10 := b1.c0; have c11 := b1.c1) | (go_at_call 27; refine (HB.out _ (spans_below Hsp.out k1)).mono ?_; rintro e w2 ⟨g, o, c, rfl, hc2, hb2⟩; have k2 := k1.trans (hb2.mono k1.size); have b2 := b1.below hb2; have c20 := b2.c0; have c21 := b2.c1) | (go_at_call 26; refine (Tryz.slices_Contains_int g o m c zs n _ (by rw [HL.out]; exact Nat.le_refl _) (by omega) hc2).mono ?_; rintro e w3 ⟨rfl, rfl⟩))
  all_goals
    go_wp2
    go_ret
    exact ⟨by rw [Hb.out]; simp, by assumption⟩
theorem right_calls (l : List UInt8) (n : Int) (hl : l.length ≤ 9223372036854775807) (w : World) (hsp : Spans w) :
    Calls Tryz.prog 9 #[.agg #[.string (bs l), .int .i64 n]] w fun e w' => e = .returned (.bool (rightB l n)) ∧ Below w.heap.size w w' := by
  by_cases h6 : l.length ≤ 600
  · by_cases hp : plainL l = l
    · exact right_plain l n w h6 hp hsp
    · exact right_other l n w h6 hp
  · exact right_long l n hl w (by omega)
end
end Go.Proofs.YtlmbafnoopfilaaGreatDoor
