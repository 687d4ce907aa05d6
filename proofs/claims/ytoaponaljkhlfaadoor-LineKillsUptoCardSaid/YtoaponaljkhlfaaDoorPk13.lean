/-
  Layer 7 and what it stands on, part 13 (LogB).
-/
import Derived.Test.YtoaponaljkhlfaaDoorPk6
import Derived.Test.YtoaponaljkhlfaaDoorPk11
import Derived.Test.YtoaponaljkhlfaaDoorPk12
import Derived.WalkKit
import Derived.BigQuiet
import Derived.IntWalk
import Derived.Lib.MinMax
import Derived.Lib.Strings
import Derived.Deep.RegionHeld3
import Derived.Recover
import Derived.Defers
namespace Go.Proofs.YtoaponaljkhlfaaDoor
section
open Go Go.RowKit
set_option maxRecDepth 100000
/-- A buffer as a value, and its cells. -/
abbrev bufV (x : Bf) : Value := .agg #[.string (bs x.1), .int .i64 (x.2 : Int)]
def bufC (x : Bf) : List Value := [.string (bs x.1), .int .i64 (x.2 : Int)]
theorem bufC_length (x : Bf) : (bufC x).length = 2 := rfl
abbrev LogB (w : World) (R : Nat → Prop) (b : Nat) (s : LS Bf) : Prop := LogT bufC 85 w R b s
theorem objB : ObjL LogB := objT _ _
abbrev ToBB := ToB LogB
theorem szB (W : World) : (sizeOf 23).run Tryd.prog W = .ok 2 W := by simp [sizeOf, typeInfo, go_sem]; kernel_rfl
theorem bs_inj {a b : List UInt8} (h : bs a = bs b) : a = b := by rw [← bl_bs a, ← bl_bs b, h]
set_option maxHeartbeats 2000000 in
theorem now_callsB (w : World) (R : Nat → Prop) (b : Nat) (s : LS Bf) (h : LogB w R b s) :
    Calls Tryd.prog 26 #[.pointer (some ⟨b, 0, none⟩)] w fun e w' => e = .returned (bufV s.now) ∧ Below w.heap.size w w' := by
  obtain ⟨W1, hW1⟩ : ∃ W1, w.alloc (.cells #[.string ⟨#[]⟩, .int .i64 0] 23) = W1 := ⟨_, rfl⟩
  have hB1 : Below w.heap.size w W1 := by rw [← hW1]; exact (Below.refl _ w).alloc (Nat.le_refl _) _
  have x0 : Bx W1 w.heap.size 23 (.string ⟨#[]⟩) (.int .i64 0) := by rw [← hW1]; exact Bx.new w _ _ _
  obtain ⟨g, o, c, hb, hrow, hgb, hg, h3, h4⟩ := (objB.below h hB1).open_
  have k0 : W1.cell? ⟨g, o + s.back.length * 2, none⟩ = some (.string (bs s.now.1)) := hrow.cells bufC_length (j := 0) rfl
  have k1 : W1.cell? ⟨g, o + s.back.length * 2 + 1, none⟩ = some (.int .i64 (s.now.2 : Int)) := hrow.cells bufC_length (j := 1) rfl
  have c1 := hb.c 1 rfl
  have c2 := hb.c 2 rfl
  have hln := h.ok.len
  have hle := h.ok.le
  have hi1 : s.back.length < s.back.length + 1 + s.forth.length := by omega
  have hi2 : (s.back.length : Int) < ((s.back.length + 1 + s.forth.length : Nat) : Int) := by omega
  have HB1 := Lib.hid hB1
  have HX := Lib.hid x0
  have e0 := x0.c0
  have e1 := x0.c1
  have f0 := x0.f0
  have f1 := x0.f1
  clear hb hrow h x0 hB1
  generalize s.back.length + 1 + s.forth.length = m at *
  generalize s.back.length = n at *
  generalize s.now = x at *
  go_enter Tryd.func26, Tryd.ntmps26
  go_wp2_with fail
  refine wp_region_last (S := (fun w' => w'.cell? ⟨b, 1, none⟩ = some (.slice (some ⟨g, o, none⟩) m c) ∧ w'.cell? ⟨b, 2, none⟩ = some (.int .i64 (n : Int)) ∧ w'.cell? ⟨g, o + n * 2, none⟩ = some (.string (bs x.1)) ∧ w'.cell? ⟨g, o + n * 2 + 1, none⟩ = some (.int .i64 (x.2 : Int)))) 10 (by kernel_rfl) ⟨c1, c2, k0, k1⟩ (fun hHeld => ?_)
  refine lastAny_take (i := 0) (oi := ⟨some 3, _, _, _, _, _⟩) (v := ?_) rfl (by kernel_rfl) (by kernel_rfl) (by kernel_rfl) (by kernel_rfl) (fun _ _ _ h => h) (Or.inl ⟨by kernel_rfl, ?hy0⟩) (by assumption) ?_
  case hy0 => (intro w' hSw; (try dsimp only at hSw); go_simp; try with_reducible rfl)
  simp only [Act.put, List.setIfInBounds_toArray, List.set_cons_zero, List.set_cons_succ]
  refine lastAny_take (i := 1) (oi := ⟨some 4, _, _, _, _, _⟩) (v := ?_) rfl (by kernel_rfl) (by kernel_rfl) (by kernel_rfl) (by kernel_rfl) (fun _ _ _ h => h) (Or.inl ⟨by kernel_rfl, ?hy1⟩) (by assumption) ?_
  case hy1 => (intro w' hSw; (try dsimp only at hSw); go_simp; try with_reducible rfl)
  simp only [Act.put, List.setIfInBounds_toArray, List.set_cons_zero, List.set_cons_succ]
  refine lastAny_take (i := 2) (oi := ⟨some 5, _, _, _, _, _⟩) (v := ?_) rfl (by kernel_rfl) (by kernel_rfl) (by kernel_rfl) (by kernel_rfl) (fun _ _ _ h => h) (Or.inl ⟨by kernel_rfl, ?hy2⟩) (by assumption) ?_
  case hy2 => (intro w' hSw; (try dsimp only at hSw); go_simp; try with_reducible rfl)
  simp only [Act.put, List.setIfInBounds_toArray, List.set_cons_zero, List.set_cons_succ]
  refine lastAny_take (i := 3) (oi := ⟨some 6, _, _, _, _, _⟩) (v := ?_) rfl (by kernel_rfl) (by kernel_rfl) (by kernel_rfl) (by kernel_rfl) (fun _ _ _ h => h) (Or.inl ⟨by kernel_rfl, ?hy3⟩) (by assumption) ?_
  case hy3 => (intro w' hSw; (try dsimp only at hSw); go_simp; try with_reducible rfl)
  simp only [Act.put, List.setIfInBounds_toArray, List.set_cons_zero, List.set_cons_succ]
  refine lastAny_take (i := 4) (oi := ⟨some 7, _, _, _, _, _⟩) (v := ?_) rfl (by kernel_rfl) (by kernel_rfl) (by kernel_rfl) (by kernel_rfl) (fun _ _ _ h => h) (Or.inl ⟨by kernel_rfl, ?hy4⟩) (by assumption) ?_
  case hy4 => (intro w' hSw; (try dsimp only at hSw); go_simp; try with_reducible rfl)
  simp only [Act.put, List.setIfInBounds_toArray, List.set_cons_zero, List.set_cons_succ]
  refine lastAny_take (i := 5) (oi := ⟨some 8, _, _, _, _, _⟩) (v := ?_) rfl (by kernel_rfl) (by kernel_rfl) (by kernel_rfl) (by kernel_rfl) (fun _ _ _ h => h) (Or.inl ⟨by kernel_rfl, ?hy5⟩) (by assumption) ?_
  case hy5 => (intro w' hSw; (try dsimp only at hSw); go_simp; try with_reducible rfl)
  simp only [Act.put, List.setIfInBounds_toArray, List.set_cons_zero, List.set_cons_succ]
  refine lastAny_take (i := 6) (oi := ⟨some 9, _, _, _, _, _⟩) (v := ?_) rfl (by kernel_rfl) (by kernel_rfl) (by kernel_rfl) (by kernel_rfl) (fun _ _ _ h => h) (Or.inl ⟨by kernel_rfl, ?hy6⟩) (by assumption) ?_
  case hy6 => (intro w' hSw; (try dsimp only at hSw); go_simp; try with_reducible rfl)
  simp only [Act.put, List.setIfInBounds_toArray, List.set_cons_zero, List.set_cons_succ]
  refine lastAny_take (i := 7) (oi := ⟨some 10, _, _, _, _, _⟩) (v := ?_) rfl (by kernel_rfl) (by kernel_rfl) (by kernel_rfl) (by kernel_rfl) (fun _ _ _ h => h) (Or.inl ⟨by kernel_rfl, ?hy7⟩) (by assumption) ?_
  case hy7 => (intro w' hSw; (try dsimp only at hSw); go_simp; try with_reducible rfl)
  simp only [Act.put, List.setIfInBounds_toArray, List.set_cons_zero, List.set_cons_succ]
  refine lastAny_take (i := 8) (oi := ⟨some 11, _, _, _, _, _⟩) (v := ?_) rfl (by kernel_rfl) (by kernel_rfl) (by kernel_rfl) (by kernel_rfl) (fun _ _ _ h => h) (Or.inl ⟨by kernel_rfl, ?hy8⟩) (by assumption) ?_
  case hy8 => (intro w' hSw; (try dsimp only at hSw); go_simp; try with_reducible rfl)
  simp only [Act.put, List.setIfInBounds_toArray, List.set_cons_zero, List.set_cons_succ]
  refine lastAny_take (i := 9) (oi := ⟨some 12, _, _, _, _, _⟩) (v := ?_) rfl (by kernel_rfl) (by kernel_rfl) (by kernel_rfl) (by kernel_rfl) (fun _ _ _ h => h) (Or.inl ⟨by kernel_rfl, ?hy9⟩) (by assumption) ?_
  case hy9 => (intro w' hSw; (try dsimp only at hSw); go_simp; try with_reducible rfl)
  simp only [Act.put, List.setIfInBounds_toArray, List.set_cons_zero, List.set_cons_succ]
  refine lastAny_end (by kernel_rfl) rfl (by kernel_rfl) (by kernel_rfl) (fun K hK => ?_)
  go_simp
  refine hK.out _ _ ?_
  clear hK K
  go_wp2_with fail
  refine bodyPost_ret (results_bx rfl _ _ w.heap.size (.string (bs x.1)) (.int .i64 (x.2 : Int)) 23 rfl (((HX.out.set0 _).set1 _).drew) Tryd.underlying23 (szB _)) rfl ?_
  exact ⟨rfl, ((HB1.out.setCell (p := ⟨w.heap.size, 0, none⟩) (Nat.le_refl _) _).setCell (p := ⟨w.heap.size, 1, none⟩) (Nat.le_refl _) _).drew⟩
set_option maxHeartbeats 1000000 in
theorem len_callsB (w : World) (R : Nat → Prop) (b : Nat) (s : LS Bf) (h : LogB w R b s) :
    Calls Tryd.prog 27 #[.pointer (some ⟨b, 0, none⟩)] w fun e w' => e = .returned (.tuple #[.int .i64 (s.back.length : Int), .int .i64 (s.forth.length : Int)]) ∧ Below w.heap.size w w' := by
  obtain ⟨g, o, c, hb, hrow, hgb, hg, h3, h4⟩ := h.open_
  have c1 := hb.c 1 rfl
  have c2 := hb.c 2 rfl
  have hln := h.ok.len
  have hle := h.ok.le
  obtain ⟨m, hm⟩ : ∃ m, s.back.length + 1 + s.forth.length = m := ⟨_, rfl⟩
  have hw1 : IntKind.i64.wrap ((m : Int) - (s.back.length : Int)) = (m : Int) - (s.back.length : Int) := IntWalk.i64_in _ (by omega)
  have hw2 : IntKind.i64.wrap ((m : Int) - (s.back.length : Int) - 1) = (s.forth.length : Int) := by rw [IntWalk.i64_in _ (by omega)]; omega
  rw [hm] at c1
  clear hb hrow h hm
  generalize s.back.length = n at *
  generalize s.forth.length = k at *
  go_enter Tryd.func27, Tryd.ntmps27
  go_wp2
  go_quiet (fail)
  go_wp2
  go_ret2
  exact ⟨rfl, bel_drewK (Below.refl _ _) _⟩
theorem same_idleB (w : World) :
    CallsD Tryd.prog 87 #[] .returning w fun e u' w' => e = .returned (.tuple #[]) ∧ u' = .returning ∧ w' = w := by
  refine callsD_of_wpS Tryd.func87 rfl fun c₀ cs hu => ?_
  apply wpS_region
  cases c₀
  simp_all [wpOpsS, go_sem, recoverD, Tryd.ntmps87, bodyPostS, results, Tryd.results87]
theorem same_callsB (x y : Bf) (w : World) :
    Calls Tryd.prog 67 #[bufV x, bufV y] w fun e w' => e = .returned (.bool (decide (x = y))) ∧ Below w.heap.size w w' := by
  go_enter_defers Tryd.func67, Tryd.ntmps67
  go_wp2
  all_goals refine leaves_cons (f := 87) (args := #[]) (by simp) (by simp [go_sem]) ?_
  all_goals refine (same_idleB _).mono ?_
  all_goals rintro e u' w'' ⟨rfl, rfl, rfl⟩
  all_goals refine ⟨_, results_tmp rfl _ _ _, ?_, ((Below.refl _ w).alloc (Nat.le_refl _) _).alloc (by simp) _⟩
  · rename_i h1 h2
    exact congrArg (fun q => Ending.returned (.bool q)) (decide_eq_true (Prod.ext h1 (by omega))).symm
  · rename_i h1 h2
    exact congrArg (fun q => Ending.returned (.bool q)) (decide_eq_false (fun e => h2 (by rw [e]))).symm
  · rename_i h1
    exact congrArg (fun q => Ending.returned (.bool q)) (decide_eq_false (fun e => h1 (by rw [e]))).symm
theorem break_rawB (w : World) (b : Nat) {v : Value} (c3 : w.cell? ⟨b, 3, none⟩ = some v) (f3 : w.frozen? ⟨b, 3, none⟩ = false) :
    Calls Tryd.prog 36 #[.pointer (some ⟨b, 0, none⟩)] w fun e w' => e = .returned (.tuple #[]) ∧ w' = w.setCell ⟨b, 3, none⟩ (.int .i64 0) := by
  go_enter Tryd.func36, Tryd.ntmps36
  go_wp2
  go_end0
  exact ⟨rfl, rfl⟩
set_option maxHeartbeats 2000000 in
theorem stand_outB (w : World) (R : Nat → Prop) (b : Nat) (s : LS Bf) (h : LogB w R b s) (n : Int) (hn : n < 0 ∨ ((s.back.length + 1 + s.forth.length : Nat) : Int) ≤ n) :
    Calls Tryd.prog 93 #[.pointer (some ⟨b, 0, none⟩), .int .i64 n] w fun e w' => e = .returned (.tuple #[bufV s.now, .bool false]) ∧ Below w.heap.size w w' := by
  obtain ⟨W1, hW1⟩ : ∃ W1, w.alloc (.cells #[.string ⟨#[]⟩, .int .i64 0] 23) = W1 := ⟨_, rfl⟩
  have hB1 : Below w.heap.size w W1 := by rw [← hW1]; exact (Below.refl _ w).alloc (Nat.le_refl _) _
  have x0 : Bx W1 w.heap.size 23 (.string ⟨#[]⟩) (.int .i64 0) := by rw [← hW1]; exact Bx.new w _ _ _
  have h1 := objB.below h hB1
  obtain ⟨g, o, c, hb, hrow, hgb, hg, h3, h4⟩ := h1.open_
  have c1 := hb.c 1 rfl
  have Hn := Lib.hid (now_callsB W1 R b s h1)
  have HB1 := Lib.hid hB1
  have HX := Lib.hid x0
  clear hb hrow h h1 x0 hB1
  generalize s.back.length + 1 + s.forth.length = m at *
  generalize s.now = x at *
  by_cases hz : n < 0
  · have hz1 : decide (n < 0) = true := decide_eq_true hz
    clear hn
    go_enter Tryd.func93, Tryd.ntmps93
    go_wp2_with fail
    refine Hn.out.mono ?_
    rintro e w2 ⟨rfl, hb2⟩
    have HB := Lib.hid (HB1.out.trans (hb2.mono HB1.out.size))
    have x2 := HX.out.below hb2
    have e0 := x2.c0
    have e1 := x2.c1
    have f0 := x2.f0
    have f1 := x2.f1
    have X2 := Lib.hid x2
    clear hb2 Hn x2
    go_wp2_with fail
    refine bodyPost_ret (results_bx2 rfl _ _ w.heap.size (.string (bs x.1)) (.int .i64 (x.2 : Int)) 23 rfl ((X2.out.set0 _).set1 _) Tryd.underlying23 (szB _)) rfl ?_
    exact ⟨rfl, (HB.out.setCell (p := ⟨w.heap.size, 0, none⟩) (Nat.le_refl _) _).setCell (p := ⟨w.heap.size, 1, none⟩) (Nat.le_refl _) _⟩
  · have hz1 : decide (n < 0) = false := decide_eq_false hz
    have hn' : (m : Int) ≤ n := by omega
    have hz2 : decide ((m : Int) ≤ n) = true := decide_eq_true hn'
    clear hn
    go_enter Tryd.func93, Tryd.ntmps93
    go_wp2_with fail
    refine Hn.out.mono ?_
    rintro e w2 ⟨rfl, hb2⟩
    have HB := Lib.hid (HB1.out.trans (hb2.mono HB1.out.size))
    have x2 := HX.out.below hb2
    have e0 := x2.c0
    have e1 := x2.c1
    have f0 := x2.f0
    have f1 := x2.f1
    have X2 := Lib.hid x2
    clear hb2 Hn x2
    go_wp2_with fail
    refine bodyPost_ret (results_bx2 rfl _ _ w.heap.size (.string (bs x.1)) (.int .i64 (x.2 : Int)) 23 rfl ((X2.out.set0 _).set1 _) Tryd.underlying23 (szB _)) rfl ?_
    exact ⟨rfl, (HB.out.setCell (p := ⟨w.heap.size, 0, none⟩) (Nat.le_refl _) _).setCell (p := ⟨w.heap.size, 1, none⟩) (Nat.le_refl _) _⟩
set_option maxHeartbeats 2000000 in
theorem stand_inB (w : World) (R : Nat → Prop) (b : Nat) (s s' : LS Bf) (h : LogB w R b s) (hok : s'.Ok) (hrw : rowL s' = rowL s) (hlm : s'.lim = s.lim) (hop : s'.opn = 0) :
    Calls Tryd.prog 93 #[.pointer (some ⟨b, 0, none⟩), .int .i64 (s'.back.length : Int)] w fun e w' => e = .returned (.tuple #[bufV s'.now, .bool true]) ∧ ToBB w R w' b s' := by
  obtain ⟨W1, hW1⟩ : ∃ W1, w.alloc (.cells #[.string ⟨#[]⟩, .int .i64 0] 23) = W1 := ⟨_, rfl⟩
  have hB1 : Below w.heap.size w W1 := by rw [← hW1]; exact (Below.refl _ w).alloc (Nat.le_refl _) _
  have x0 : Bx W1 w.heap.size 23 (.string ⟨#[]⟩) (.int .i64 0) := by rw [← hW1]; exact Bx.new w _ _ _
  have h1 := objB.below h hB1
  obtain ⟨g, o, c, hb, hrow, hgb, hg, h3, h4⟩ := h1.open_
  have hbw := objB.lt h b h.ins
  have c1 := hb.c 1 rfl
  have c2 := hb.c 2 rfl
  have c3 := hb.c 3 rfl
  have f2 := hb.free 2
  have f3 := hb.free 3
  have hln := congrArg List.length hrw
  rw [rowL_length, rowL_length] at hln
  have hp := logT_place h1 hok hrw hlm
  rw [hop] at hp
  have hz1 : decide ((s'.back.length : Int) < 0) = false := decide_eq_false (by omega)
  have hz0 : ¬ ((s'.back.length : Int) < 0) := by omega
  have hz2 : decide (((s.back.length + 1 + s.forth.length : Nat) : Int) ≤ (s'.back.length : Int)) = false := decide_eq_false (by omega)
  have hz3 : ¬ (((s.back.length + 1 + s.forth.length : Nat) : Int) ≤ (s'.back.length : Int)) := by omega
  clear hln hrow
  generalize s.back.length + 1 + s.forth.length = m at *
  obtain ⟨W2, hW2⟩ : ∃ W2, (W1.setCell ⟨b, 2, none⟩ (.int .i64 (s'.back.length : Int))).setCell ⟨b, 3, none⟩ (.int .i64 0) = W2 := ⟨_, rfl⟩
  have Hb := Lib.hid (break_rawB (W1.setCell ⟨b, 2, none⟩ (.int .i64 (s'.back.length : Int))) b (v := .int .i64 s.opn) ((World.cell?_setCell_other _ _ _ _ (by simp)).trans c3) ((World.frozen?_setCell ..).trans f3))
  have hx2 : Bx W2 w.heap.size 23 (.string ⟨#[]⟩) (.int .i64 0) := by rw [← hW2]; exact (x0.other (by omega) _).other (by omega) _
  rw [hW2] at hp Hb
  have Hn := Lib.hid (now_callsB W2 R b s' hp.1)
  have HP := Lib.hid hp
  have HX := Lib.hid hx2
  have Hlt : Hid (w.heap.size < W1.heap.size) := Lib.hid x0.lt
  have HB1 := Lib.hid hB1
  have HR := Lib.hid h
  clear hb h h1 hp hrw hlm hop hok x0 hx2 hB1 hbw
  generalize (s'.back.length : Int) = k at *
  generalize s'.now = x at *
  go_enter Tryd.func93, Tryd.ntmps93
  go_wp2_with fail
  refine Hb.out.mono ?_
  rintro e w2 ⟨rfl, rfl⟩
  clear Hb hW2
  go_wp2_with fail
  refine Hn.out.mono ?_
  rintro e w3 ⟨rfl, hb3⟩
  have x2 := HX.out.below hb3
  have e0 := x2.c0
  have e1 := x2.c1
  have f0 := x2.f0
  have f1 := x2.f1
  have X2 := Lib.hid x2
  have HT : Hid (ToBB w R ((w3.setCell ⟨w.heap.size, 0, none⟩ (.string (bs x.1))).setCell ⟨w.heap.size, 1, none⟩ (.int .i64 (x.2 : Int))) b s') := Lib.hid (ToB.past objB HR.out HB1.out Hlt.out (ToB.below objB ⟨R, HP.out.1, HP.out.2, fun _ h => .inl h⟩ hb3) _ _ _ _)
  clear hb3 Hn x2
  go_wp2_with fail
  refine bodyPost_ret (results_bx2 rfl _ _ w.heap.size (.string (bs x.1)) (.int .i64 (x.2 : Int)) 23 rfl ((X2.out.set0 _).set1 _) Tryd.underlying23 (szB _)) rfl ?_
  exact ⟨rfl, HT.out⟩
set_option maxHeartbeats 2000000 in
theorem undo_callsB (w : World) (R : Nat → Prop) (b : Nat) (s : LS Bf) (h : LogB w R b s) :
    Calls Tryd.prog 81 #[.pointer (some ⟨b, 0, none⟩)] w fun e w' => e = .returned (.tuple #[bufV s.undo.now, .bool (decide (s.back ≠ []))]) ∧ ToBB w R w' b s.undo := by
  obtain ⟨W1, hW1⟩ : ∃ W1, w.alloc (.cells #[.string ⟨#[]⟩, .int .i64 0] 23) = W1 := ⟨_, rfl⟩
  have hB1 : Below w.heap.size w W1 := by rw [← hW1]; exact (Below.refl _ w).alloc (Nat.le_refl _) _
  have x0 : Bx W1 w.heap.size 23 (.string ⟨#[]⟩) (.int .i64 0) := by rw [← hW1]; exact Bx.new w _ _ _
  have h1 := objB.below h hB1
  obtain ⟨g, o, c, hb, hrow, hgb, hg, h3, h4⟩ := h1.open_
  have hbw := objB.lt h b h.ins
  have c2 := hb.c 2 rfl
  have hln := h.ok.len
  have hle := h.ok.le
  have hw1 : IntKind.i64.wrap ((s.back.length : Int) - 1) = (s.back.length : Int) - 1 := IntWalk.i64_in _ (by omega)
  have Hs : Hid (Calls Tryd.prog 93 #[.pointer (some ⟨b, 0, none⟩), .int .i64 ((s.back.length : Int) - 1)] W1 fun e w' => e = .returned (.tuple #[bufV s.undo.now, .bool (decide (s.back ≠ []))]) ∧ ToBB W1 R w' b s.undo) := Lib.hid (by
    by_cases hbk : s.back = []
    · rw [show s.undo = s by unfold LS.undo; rw [if_pos hbk], show decide (s.back ≠ []) = false from decide_eq_false (fun h => h hbk)]
      refine (stand_outB W1 R b s h1 _ (.inl (by rw [hbk]; decide))).mono ?_
      rintro e w' ⟨rfl, hb'⟩
      exact ⟨rfl, ToB.of_below objB h1 hb'⟩
    · obtain ⟨hrw, hbl, hlm, hop⟩ := rowL_undo hbk
      have hpos : 0 < s.back.length := List.length_pos_iff.2 hbk
      rw [show decide (s.back ≠ []) = true from decide_eq_true hbk, show (s.back.length : Int) - 1 = (s.undo.back.length : Int) by omega]
      exact stand_inB W1 R b s s.undo h1 h1.ok.undo hrw hlm hop)
  have HX := Lib.hid x0
  have HB1 := Lib.hid hB1
  have HR := Lib.hid h
  have hne : ¬ w.heap.size = b := by omega
  clear hb hrow h h1 x0 hB1 hbw
  generalize s.undo.now = x at *
  generalize decide (s.back ≠ []) = q at *
  generalize (s.back.length : Int) = k at *
  go_enter Tryd.func81, Tryd.ntmps81
  go_wp2_with fail
  refine Hs.out.mono ?_
  rintro e w2 ⟨rfl, ht⟩
  have x2 : Bx w2 w.heap.size 23 (.string ⟨#[]⟩) (.int .i64 0) := by
    obtain ⟨_, _, ho, _⟩ := ht
    exact HX.out.keepO ho hne
  have HT : Hid (ToBB w R ((w2.setCell ⟨w.heap.size, 0, none⟩ (.string (bs x.1))).setCell ⟨w.heap.size, 1, none⟩ (.int .i64 (x.2 : Int))) b s.undo) := Lib.hid (ToB.past objB HR.out HB1.out HX.out.lt ht _ _ _ _)
  have e0 := x2.c0
  have e1 := x2.c1
  have f0 := x2.f0
  have f1 := x2.f1
  have X2 := Lib.hid x2
  clear ht Hs x2
  go_wp2_with fail
  refine bodyPost_ret (results_bx2 rfl _ _ w.heap.size (.string (bs x.1)) (.int .i64 (x.2 : Int)) 23 rfl ((X2.out.set0 _).set1 _) Tryd.underlying23 (szB _)) rfl ?_
  exact ⟨rfl, HT.out⟩
set_option maxHeartbeats 2000000 in
theorem redo_callsB (w : World) (R : Nat → Prop) (b : Nat) (s : LS Bf) (h : LogB w R b s) :
    Calls Tryd.prog 82 #[.pointer (some ⟨b, 0, none⟩)] w fun e w' => e = .returned (.tuple #[bufV s.redo.now, .bool (decide (s.forth ≠ []))]) ∧ ToBB w R w' b s.redo := by
  obtain ⟨W1, hW1⟩ : ∃ W1, w.alloc (.cells #[.string ⟨#[]⟩, .int .i64 0] 23) = W1 := ⟨_, rfl⟩
  have hB1 : Below w.heap.size w W1 := by rw [← hW1]; exact (Below.refl _ w).alloc (Nat.le_refl _) _
  have x0 : Bx W1 w.heap.size 23 (.string ⟨#[]⟩) (.int .i64 0) := by rw [← hW1]; exact Bx.new w _ _ _
  have h1 := objB.below h hB1
  obtain ⟨g, o, c, hb, hrow, hgb, hg, h3, h4⟩ := h1.open_
  have hbw := objB.lt h b h.ins
  have c2 := hb.c 2 rfl
  have hln := h.ok.len
  have hle := h.ok.le
  have hw1 : IntKind.i64.wrap ((s.back.length : Int) + 1) = (s.back.length : Int) + 1 := IntWalk.i64_in _ (by omega)
  have Hs : Hid (Calls Tryd.prog 93 #[.pointer (some ⟨b, 0, none⟩), .int .i64 ((s.back.length : Int) + 1)] W1 fun e w' => e = .returned (.tuple #[bufV s.redo.now, .bool (decide (s.forth ≠ []))]) ∧ ToBB W1 R w' b s.redo) := Lib.hid (by
    by_cases hbk : s.forth = []
    · rw [show s.redo = s by unfold LS.redo; rw [if_pos hbk], show decide (s.forth ≠ []) = false from decide_eq_false (fun h => h hbk)]
      refine (stand_outB W1 R b s h1 _ (.inr (by rw [hbk]; simp))).mono ?_
      rintro e w' ⟨rfl, hb'⟩
      exact ⟨rfl, ToB.of_below objB h1 hb'⟩
    · obtain ⟨hrw, hbl, hlm, hop⟩ := rowL_redo hbk
      have hpos : 0 < s.forth.length := List.length_pos_iff.2 hbk
      rw [show decide (s.forth ≠ []) = true from decide_eq_true hbk, show (s.back.length : Int) + 1 = (s.redo.back.length : Int) by omega]
      exact stand_inB W1 R b s s.redo h1 h1.ok.redo hrw hlm hop)
  have HX := Lib.hid x0
  have HB1 := Lib.hid hB1
  have HR := Lib.hid h
  have hne : ¬ w.heap.size = b := by omega
  clear hb hrow h h1 x0 hB1 hbw
  generalize s.redo.now = x at *
  generalize decide (s.forth ≠ []) = q at *
  generalize (s.back.length : Int) = k at *
  go_enter Tryd.func82, Tryd.ntmps82
  go_wp2_with fail
  refine Hs.out.mono ?_
  rintro e w2 ⟨rfl, ht⟩
  have x2 : Bx w2 w.heap.size 23 (.string ⟨#[]⟩) (.int .i64 0) := by
    obtain ⟨_, _, ho, _⟩ := ht
    exact HX.out.keepO ho hne
  have HT : Hid (ToBB w R ((w2.setCell ⟨w.heap.size, 0, none⟩ (.string (bs x.1))).setCell ⟨w.heap.size, 1, none⟩ (.int .i64 (x.2 : Int))) b s.redo) := Lib.hid (ToB.past objB HR.out HB1.out HX.out.lt ht _ _ _ _)
  have e0 := x2.c0
  have e1 := x2.c1
  have f0 := x2.f0
  have f1 := x2.f1
  have X2 := Lib.hid x2
  clear ht Hs x2
  go_wp2_with fail
  refine bodyPost_ret (results_bx2 rfl _ _ w.heap.size (.string (bs x.1)) (.int .i64 (x.2 : Int)) 23 rfl ((X2.out.set0 _).set1 _) Tryd.underlying23 (szB _)) rfl ?_
  exact ⟨rfl, HT.out⟩
theorem break_callsB (w : World) (R : Nat → Prop) (b : Nat) (s : LS Bf) (h : LogB w R b s) :
    Calls Tryd.prog 36 #[.pointer (some ⟨b, 0, none⟩)] w fun e w' => e = .returned (.tuple #[]) ∧ ToBB w R w' b s.brk := by
  obtain ⟨g, o, c, hb, hrow, hgb, hg, h3, h4⟩ := h.open_
  have hp := logT_group h h.ok.brk (s' := s.brk) rfl rfl rfl
  refine (break_rawB w b (hb.c 3 rfl) (hb.free 3)).mono ?_
  rintro e w' ⟨rfl, rfl⟩
  exact ⟨rfl, R, hp.1, hp.2, fun _ h => .inl h⟩
theorem infoB : (Tryd.prog.info? 23).map (fun i => (i.zero, i.size, i.bytes)) = some (some (.agg #[.string ⟨#[]⟩, .int .i64 0]), 2, 24) := by kernel_rfl
/-- Where what is kept begins and ends. -/
theorem put_cutB {s : LS Bf} (h : s.Ok) (x : Bf) (g : Int) (E : Nat) (hE : E = if g ≤ 0 ∨ g ≠ s.opn then s.back.length + 1 else s.back.length) : ((rowL s).take E).drop (E - s.lim) = (s.put x g).back ∧ (s.put x g).back.length = E - (E - s.lim) ∧ E - (E - s.lim) ≤ s.lim ∧ E ≤ s.back.length + 1 := by
  have hl := h.len
  have h1 : ((rowL s).take E).drop (E - s.lim) = (s.put x g).back := by
    show _ = if g ≤ 0 ∨ g ≠ s.opn then lastN s.lim (s.back ++ [s.now]) else s.back
    split at hE
    · subst hE
      rw [if_pos ‹_›, rowL_cut]
      unfold lastN
      simp
    · subst hE
      rw [if_neg ‹_›, show s.back.length - s.lim = 0 by omega, List.drop_zero]
      unfold rowL
      exact List.take_left
  have h2 : E ≤ s.back.length + 1 := by
    rw [hE]
    split <;> omega
  refine ⟨h1, ?_, by omega, h2⟩
  rw [← h1, List.length_drop, List.length_take, rowL_length]
  omega
set_option maxHeartbeats 4000000 in
theorem do_callsB (w : World) (R : Nat → Prop) (b : Nat) (s : LS Bf) (h : LogB w R b s) (x : Bf) (gr : Int) :
    Calls Tryd.prog 39 #[.pointer (some ⟨b, 0, none⟩), bufV x, .int .i64 gr] w fun e w' => e = .returned (.bool (decide (x ≠ s.now))) ∧ ToBB w R w' b (s.does x gr) := by
  obtain ⟨W1, hW1⟩ : ∃ W1, w.alloc (.cells #[.string (bs x.1), .int .i64 (x.2 : Int)] 23) = W1 := ⟨_, rfl⟩
  have hB1 : Below w.heap.size w W1 := by rw [← hW1]; exact (Below.refl _ w).alloc (Nat.le_refl _) _
  have x0 : Bx W1 w.heap.size 23 (.string (bs x.1)) (.int .i64 (x.2 : Int)) := by rw [← hW1]; exact Bx.new w _ _ _
  have h1 := objB.below h hB1
  have d0 := x0.c0
  have d1 := x0.c1
  have Hn := Lib.hid (now_callsB W1.drew R b s (objB.below h1 (Below.refl _ W1).drew))
  have HX := Lib.hid x0
  have HB1 := Lib.hid hB1
  have HR := Lib.hid h
  have H1 := Lib.hid h1
  by_cases hx : x = s.now
  · rw [show decide (x ≠ s.now) = false from decide_eq_false (fun h => h hx), show s.does x gr = s by unfold LS.does; rw [if_pos hx]]
    have HY : Hid (decide (x = s.now) = true) := Lib.hid (decide_eq_true hx)
    clear h h1 x0 hB1 hx
    generalize s.now = y at *
    go_enter Tryd.func39, Tryd.ntmps39
    go_wp2_with fail
    refine wp_region_held_drew (S := (fun w' => w'.cell? ⟨w.heap.size, 0, none⟩ = some (.string (bs x.1)) ∧ w'.cell? ⟨w.heap.size, 1, none⟩ = some (.int .i64 (x.2 : Int)))) (by kernel_rfl) ⟨d0, d1⟩ (fun hHeld => ?_)
    refine wpAnyH_take (i := 0) (oi := ⟨some 9, _, _, _, _, _⟩) (v := ?_) rfl (by kernel_rfl) (by kernel_rfl) (by kernel_rfl) (fun _ _ _ h => h) (Or.inl ⟨by kernel_rfl, ?hy0⟩) (by assumption) ?_
    case hy0 => (intro w' hSw; (try dsimp only at hSw); go_simp; try with_reducible rfl)
    simp only [Act.put, List.setIfInBounds_toArray, List.set_cons_zero, List.set_cons_succ]
    refine wpAnyH_take (i := 1) (oi := ⟨some 10, _, _, _, _, _⟩) (v := ?_) rfl (by kernel_rfl) (by kernel_rfl) (by kernel_rfl) (fun _ _ _ h => h) (Or.inl ⟨by kernel_rfl, ?hy1⟩) (by assumption) ?_
    case hy1 => (intro w' hSw; (try dsimp only at hSw); go_simp; try with_reducible rfl)
    simp only [Act.put, List.setIfInBounds_toArray, List.set_cons_zero, List.set_cons_succ]
    refine wpAnyH_ready (rs := [2]) (by kernel_rfl) (by simp) ?_
    refine AllReadyH.cons (o := ⟨some 11, _, _, _, _, _⟩) rfl (fun K hK => ?_) AllReadyH.nil
    (rw [if_pos (by kernel_rfl)])
    go_simp
    refine Hn.out.mono ?_
    rintro e w3 ⟨rfl, hb3⟩
    have hb3' : Below W1.heap.size W1 w3 := ⟨hb3.os, hb3.tape, hb3.output, hb3.size, hb3.block⟩
    have x3 := HX.out.below hb3'
    have q0 := x3.c0
    have q1 := x3.c1
    refine hK.out _ _ ⟨q0, q1⟩ (fun hHeld => ?_)
    clear hK K
    clear hHeld
    refine wpAnyH_ready (rs := [3]) (by kernel_rfl) (by simp) ?_
    refine AllReadyH.cons (o := ⟨some 12, _, _, _, _, _⟩) rfl (fun K hK => ?_) AllReadyH.nil
    (rw [if_pos (by kernel_rfl)])
    go_simp
    refine (same_callsB x y w3).mono ?_
    rintro e w4 ⟨rfl, hb4⟩
    have hb4' : Below W1.heap.size W1 w4 := hb3'.trans (hb4.mono hb3'.size)
    have x4 := x3.below hb4
    have r0 := x4.c0
    have r1 := x4.c1
    rw [HY.out] at *
    refine hK.out _ _ ⟨r0, r1⟩ (fun hHeld => ?_)
    clear hK K
    clear hHeld hb3 hb3' hb4 x3 q0 q1
    refine wpAnyH_done (by kernel_rfl) ?_ _
    have HT : Hid (ToBB w R w4 b s) := Lib.hid (ToB.of_below objB HR.out (HB1.out.trans (hb4'.mono HB1.out.size)))
    clear hb4' x4 r0 r1 Hn
    go_wp2
    go_ret
    exact ⟨rfl, HT.out⟩
  · rw [show decide (x ≠ s.now) = true from decide_eq_true hx, show s.does x gr = s.put x gr by unfold LS.does; rw [if_neg hx]]
    obtain ⟨i0, hi, hz0, hz1, hz2⟩ := info_parts infoB
    obtain ⟨E, hE⟩ : ∃ E : Nat, E = if gr ≤ 0 ∨ gr ≠ s.opn then s.back.length + 1 else s.back.length := ⟨_, rfl⟩
    obtain ⟨hcut, hlen, hsmall, hEn⟩ := put_cutB h.ok x gr E hE
    obtain ⟨F, hF⟩ : ∃ F, E - s.lim = F := ⟨_, rfl⟩
    rw [hF] at hcut hlen hsmall
    have hle := h.ok.le
    have hln := h.ok.len
    have hok := h.ok.put x gr
    have HY : Hid (decide (x = s.now) = false) := Lib.hid (decide_eq_false hx)
    have HC : Hid (((rowL s).take E).drop F = (s.put x gr).back ∧ (s.put x gr).back.length = E - F ∧ (s.put x gr).Ok) := Lib.hid ⟨hcut, hlen, hok⟩
    clear h h1 x0 hB1 hx hcut hlen hok
    obtain ⟨y, hy⟩ : ∃ y, s.now = y := ⟨_, rfl⟩
    rw [hy] at Hn HY
    clear hy
    go_enter Tryd.func39, Tryd.ntmps39
    go_wp2_with fail
    refine wp_region_held_drew (S := (fun w' => w'.cell? ⟨w.heap.size, 0, none⟩ = some (.string (bs x.1)) ∧ w'.cell? ⟨w.heap.size, 1, none⟩ = some (.int .i64 (x.2 : Int)))) (by kernel_rfl) ⟨d0, d1⟩ (fun hHeld => ?_)
    refine wpAnyH_take (i := 0) (oi := ⟨some 9, _, _, _, _, _⟩) (v := ?_) rfl (by kernel_rfl) (by kernel_rfl) (by kernel_rfl) (fun _ _ _ h => h) (Or.inl ⟨by kernel_rfl, ?hy0⟩) (by assumption) ?_
    case hy0 => (intro w' hSw; (try dsimp only at hSw); go_simp; try with_reducible rfl)
    simp only [Act.put, List.setIfInBounds_toArray, List.set_cons_zero, List.set_cons_succ]
    refine wpAnyH_take (i := 1) (oi := ⟨some 10, _, _, _, _, _⟩) (v := ?_) rfl (by kernel_rfl) (by kernel_rfl) (by kernel_rfl) (fun _ _ _ h => h) (Or.inl ⟨by kernel_rfl, ?hy1⟩) (by assumption) ?_
    case hy1 => (intro w' hSw; (try dsimp only at hSw); go_simp; try with_reducible rfl)
    simp only [Act.put, List.setIfInBounds_toArray, List.set_cons_zero, List.set_cons_succ]
    refine wpAnyH_ready (rs := [2]) (by kernel_rfl) (by simp) ?_
    refine AllReadyH.cons (o := ⟨some 11, _, _, _, _, _⟩) rfl (fun K hK => ?_) AllReadyH.nil
    (rw [if_pos (by kernel_rfl)])
    go_simp
    refine Hn.out.mono ?_
    rintro e w3 ⟨rfl, hb3⟩
    have hb3' : Below W1.heap.size W1 w3 := ⟨hb3.os, hb3.tape, hb3.output, hb3.size, hb3.block⟩
    have x3 := HX.out.below hb3'
    have q0 := x3.c0
    have q1 := x3.c1
    refine hK.out _ _ ⟨q0, q1⟩ (fun hHeld => ?_)
    clear hK K
    clear hHeld
    refine wpAnyH_ready (rs := [3]) (by kernel_rfl) (by simp) ?_
    refine AllReadyH.cons (o := ⟨some 12, _, _, _, _, _⟩) rfl (fun K hK => ?_) AllReadyH.nil
    (rw [if_pos (by kernel_rfl)])
    go_simp
    refine (same_callsB x y w3).mono ?_
    rintro e w4 ⟨rfl, hb4⟩
    have hb4' : Below W1.heap.size W1 w4 := hb3'.trans (hb4.mono hb3'.size)
    have x4 := x3.below hb4
    have r0 := x4.c0
    have r1 := x4.c1
    rw [HY.out] at *
    refine hK.out _ _ ⟨r0, r1⟩ (fun hHeld => ?_)
    clear hK K
    clear hHeld hb3 hb3' hb4 x3 q0 q1
    refine wpAnyH_done (by kernel_rfl) ?_ _
    have hcut := HC.out.1
    have hlen := HC.out.2.1
    have hok := HC.out.2.2
    have h4w := objB.below H1.out hb4'
    obtain ⟨g, o, c, hb, hrow, hgb, hg, h3, h4⟩ := h4w.open_
    obtain ⟨o', hif, ho'⟩ : ∃ o', (if E = F then some (⟨g, o, none⟩ : Addr) else some ⟨g, o + F * 2, none⟩) = some ⟨g, o', none⟩ ∧ (E ≠ F → o' = o + F * 2) := by
      by_cases he : E = F
      · exact ⟨o, if_pos he, fun hn => absurd he hn⟩
      · exact ⟨o + F * 2, if_neg he, fun _ => rfl⟩
    obtain ⟨W5, hW5⟩ : ∃ W5, w4.drew = W5 := ⟨_, rfl⟩
    have h45 : Below w4.heap.size w4 W5 := by rw [← hW5]; exact (Below.refl _ w4).drew
    have hs5 : W5.heap.size = w4.heap.size := by rw [← hW5]; rfl
    have hrd : RowT bufC W5 R (some ⟨g, o', none⟩) (s.put x gr).back := by
      by_cases he : E = F
      · exact fun hn => by omega
      · rw [← hcut, ho' he]
        exact ((hrow.take bufC_length E).drop bufC_length F).below h45
    clear ho'
    have hP5 : Below W5.heap.size W5 (W5.alloc (.cells #[.string (bs x.1), .int .i64 (x.2 : Int)] 23)) := (Below.refl _ W5).alloc (Nat.le_refl _) _
    obtain ⟨c', w6, hrun, hown, hb6, hs6⟩ := run_append_fullT (P := Tryd.prog) bufC_length (W5.alloc (.cells #[.string (bs x.1), .int .i64 (x.2 : Int)] 23)) 83 83 23 i0 (.agg #[.string ⟨#[]⟩, .int .i64 0]) 24 Tryd.underlying83 hi hz0 hz1 hz2 rfl (by decide) g o' (E - F) (s.put x gr).back (hrd.below hP5) (some ⟨W5.heap.size, 0, none⟩) 1 [x] (by simp) (R2 := fun _ => True) (fun _ => ⟨W5.heap.size, 0, rfl, trivial, by simp, fun j v hj => by
      have hx5 := Bx.new W5 23 (.string (bs x.1)) (.int .i64 (x.2 : Int))
      match j, hj with
      | 0, hj => simp [bufC] at hj; subst hj; simp
      | 1, hj => simp [bufC] at hj; subst hj; simp
      | j + 2, hj => simp [bufC] at hj⟩) (by rw [hlen]; simp) (by rw [hlen]; simp; omega)
    rw [hlen, World.size_alloc, show [x].length = 1 from rfl] at hrun hown
    have hb6' : Below W5.heap.size W5 w6 := hP5.trans (hb6.mono hP5.size)
    have hbx5 := hb.below h45
    have hbxP := hbx5.alloc (.cells #[.string (bs x.1), .int .i64 (x.2 : Int)] 23)
    have hbx6 := hbx5.below hb6'
    have y5 := x4.below h45
    have yP := y5.alloc (.cells #[.string (bs x.1), .int .i64 (x.2 : Int)] 23)
    have y6 := y5.below hb6'
    have c0 := hb.c 0 rfl
    have c1 := hb.c 1 rfl
    have c2 := hb.c 2 rfl
    have c3 := hb.c 3 rfl
    have s1 := hbx5.c 1 rfl
    have s2 := y5.c0
    have s3 := y5.c1
    have p1 := hbxP.c 1 rfl
    have p2 := yP.c0
    have p3 := yP.c1
    have z1 := hbx6.c 1 rfl
    have z2 := hbx6.c 2 rfl
    have z3 := hbx6.c 3 rfl
    have z4 := y6.c0
    have z5 := y6.c1
    have f1 := hbx6.free 1
    have f2 := hbx6.free 2
    have f3 := hbx6.free 3
    obtain ⟨Wf, hWf⟩ : ∃ Wf, ((w6.setCell ⟨b, 1, none⟩ (.slice (some ⟨W5.heap.size + 1, 0, none⟩) (E - F + 1) c')).setCell ⟨b, 2, none⟩ (.int .i64 ((E - F : Nat) : Int))).setCell ⟨b, 3, none⟩ (.int .i64 (s.put x gr).opn) = Wf := ⟨_, rfl⟩
    have hfin : ToBB w R Wf b (s.put x gr) := by
      have hrl : rowL (s.put x gr) = (s.put x gr).back ++ [x] := rfl
      have hll : (rowL (s.put x gr)).length = E - F + 1 := by rw [hrl, List.length_append, hlen]; rfl
      have hb14 := HB1.out.trans (hb4'.mono HB1.out.size)
      have hb15 := hb14.trans (h45.mono hb14.size)
      have hb16 := hb15.trans (hb6'.mono hb15.size)
      refine logT_built (k := 2) (N := W5.heap.size + 1) (ty := 23) (A := some ⟨W5.heap.size + 1, 0, none⟩) (c := c') HR.out hok hb16 (w2 := w6) (((Only.refl (fun k => k = b) w6).set (p := ⟨b, 1, none⟩) (.inl rfl) _).set (p := ⟨b, 2, none⟩) (.inl rfl) _ |>.set (p := ⟨b, 3, none⟩) (.inl rfl) _ |> fun ho => by rw [hWf] at ho; exact ho) (by have := hb15.size; omega) ?_ ?_
      · rw [← hWf, hll, hlen]
        exact ((hbx6.set 1 _).set 2 _).set 3 _
      · rw [hll, hrl]
        simpa using hown
    have HF := Lib.hid hfin
    have Hrun := Lib.hid hrun
    have HWf := Lib.hid hWf
    have HW5 := Lib.hid hW5
    have hEFm : F ≤ E := by omega
    have hopn : max gr 0 = (s.put x gr).opn := by show max gr 0 = (if 0 < gr then gr else 0); split <;> omega
    have hwE : IntKind.i64.wrap ((s.back.length : Int) + 1) = ((s.back.length + 1 : Nat) : Int) := by rw [IntWalk.i64_in _ (by omega)]; omega
    have hwF : IntKind.i64.wrap ((E : Int) - (s.lim : Int)) = (E : Int) - (s.lim : Int) := IntWalk.i64_in _ (by omega)
    have hmF : max ((E : Int) - (s.lim : Int)) 0 = (F : Int) := by omega
    have hwA : IntKind.i64.wrap ((E : Int) - (F : Int)) = ((E - F : Nat) : Int) := by rw [IntWalk.i64_in _ (by omega)]; omega
    have hEm : E ≤ c := by omega
    have hFE : (F : Int) ≤ (E : Int) := by omega
    have hEc : (E : Int) ≤ (c : Int) := by omega
    rw [← hopn] at HWf
    clear hfin hrun hWf hown hb6 hb6' hbx5 hbxP hbx6 y5 yP y6 x4 hb hs6 hP5 Hn hok hlen hcut HR HC H1 HB1 hi hz0 hz1 hz2 h4w hrow hrd h45 hs5 hb4' d0 d1 HX hW1 hW5 r0 r1
    by_cases hgr : 0 < gr
    · have hgd : decide (0 < gr) = true := decide_eq_true hgr
      by_cases hgo : gr = s.opn
      · have hge : (gr == s.opn) = true := beq_iff_eq.2 hgo
        rw [if_neg (by omega)] at hE
        have hE2 : (s.back.length : Int) = (E : Int) := by omega
        rw [hE2] at c2 z2 hwE
        clear hgo hE2
        clear hE hln hle hsmall hEn hF h3 h4 hopn
        generalize s.back.length + 1 + s.forth.length = m at *
        generalize s.opn = op at *
        generalize s.lim = lm at *
        go_wp2_with fail
        refine wp_region_last (S := (fun w' => w'.cell? ⟨b, 1, none⟩ = some (.slice (some ⟨g, o, none⟩) m c) ∧ w'.cell? ⟨w.heap.size, 0, none⟩ = some (.string (bs x.1)) ∧ w'.cell? ⟨w.heap.size, 1, none⟩ = some (.int .i64 (x.2 : Int)))) 14 (by kernel_rfl) (by rw [HW5.out]; exact ⟨s1, s2, s3⟩) (fun hHeld => ?_)
        rw [HW5.out] at hHeld ⊢
        refine lastAny_take (i := 0) (oi := ⟨some 39, _, _, _, _, _⟩) (v := ?_) rfl (by kernel_rfl) (by kernel_rfl) (by kernel_rfl) (by kernel_rfl) (fun _ _ _ h => h) (Or.inl ⟨by kernel_rfl, ?hy0⟩) (by assumption) ?_
        case hy0 => (intro w' hSw; (try dsimp only at hSw); go_simp; try with_reducible rfl)
        simp only [Act.put, List.setIfInBounds_toArray, List.set_cons_zero, List.set_cons_succ]
        refine lastAny_take (i := 1) (oi := ⟨some 40, _, _, _, _, _⟩) (v := ?_) rfl (by kernel_rfl) (by kernel_rfl) (by kernel_rfl) (by kernel_rfl) (fun _ _ _ h => h) (Or.inl ⟨by kernel_rfl, ?hy1⟩) (by assumption) ?_
        case hy1 => (intro w' hSw; (try dsimp only at hSw); go_simp; try with_reducible rfl)
        simp only [Act.put, List.setIfInBounds_toArray, List.set_cons_zero, List.set_cons_succ]
        refine lastAny_take (i := 2) (oi := ⟨some 41, _, _, _, _, _⟩) (v := ?_) rfl (by kernel_rfl) (by kernel_rfl) (by kernel_rfl) (by kernel_rfl) (fun _ _ _ h => h) (Or.inl ⟨by kernel_rfl, ?hy2⟩) (by assumption) ?_
        case hy2 => (intro w' hSw; (try dsimp only at hSw); go_simp; try with_reducible rfl)
        simp only [Act.put, List.setIfInBounds_toArray, List.set_cons_zero, List.set_cons_succ]
        refine lastAny_take (i := 3) (oi := ⟨some 42, _, _, _, _, _⟩) (v := ?_) rfl (by kernel_rfl) (by kernel_rfl) (by kernel_rfl) (by kernel_rfl) (fun _ _ _ h => h) (Or.inl ⟨by kernel_rfl, ?hy3⟩) (by assumption) ?_
        case hy3 => (intro w' hSw; (try dsimp only at hSw); go_simp; try with_reducible rfl)
        simp only [Act.put, List.setIfInBounds_toArray, List.set_cons_zero, List.set_cons_succ]
        refine lastAny_take (i := 4) (oi := ⟨some 43, _, _, _, _, _⟩) (v := ?_) rfl (by kernel_rfl) (by kernel_rfl) (by kernel_rfl) (by kernel_rfl) (fun _ _ _ h => h) (Or.inl ⟨by kernel_rfl, ?hy4⟩) (by assumption) ?_
        case hy4 => (intro w' hSw; (try dsimp only at hSw); go_simp; try with_reducible rfl)
        simp only [Act.put, List.setIfInBounds_toArray, List.set_cons_zero, List.set_cons_succ]
        refine lastAny_take (i := 5) (oi := ⟨some 44, _, _, _, _, _⟩) (v := ?_) rfl (by kernel_rfl) (by kernel_rfl) (by kernel_rfl) (by kernel_rfl) (fun _ _ _ h => h) (Or.inl ⟨by kernel_rfl, ?hy5⟩) (by assumption) ?_
        case hy5 => (intro w' hSw; (try dsimp only at hSw); go_simp; try with_reducible rfl)
        simp only [Act.put, List.setIfInBounds_toArray, List.set_cons_zero, List.set_cons_succ]
        refine lastAny_take (i := 6) (oi := ⟨some 45, _, _, _, _, _⟩) (v := ?_) rfl (by kernel_rfl) (by kernel_rfl) (by kernel_rfl) (by kernel_rfl) (fun _ _ _ h => h) (Or.inl ⟨by kernel_rfl, ?hy6⟩) (by assumption) ?_
        case hy6 => (intro w' hSw; (try dsimp only at hSw); go_simp; try with_reducible rfl)
        simp only [Act.put, List.setIfInBounds_toArray, List.set_cons_zero, List.set_cons_succ]
        refine lastAny_take (i := 7) (oi := ⟨some 46, _, _, _, _, _⟩) (v := ?_) rfl (by kernel_rfl) (by kernel_rfl) (by kernel_rfl) (by kernel_rfl) (fun _ _ _ h => h) (Or.inl ⟨by kernel_rfl, ?hy7⟩) (by assumption) ?_
        case hy7 => (intro w' hSw; (try dsimp only at hSw); go_simp; try with_reducible rfl)
        simp only [Act.put, List.setIfInBounds_toArray, List.set_cons_zero, List.set_cons_succ]
        refine lastAny_take (i := 8) (oi := ⟨some 47, _, _, _, _, _⟩) (v := ?_) rfl (by kernel_rfl) (by kernel_rfl) (by kernel_rfl) (by kernel_rfl) (fun _ _ _ h => h) (Or.inl ⟨by kernel_rfl, ?hy8⟩) (by assumption) ?_
        case hy8 => (intro w' hSw; (try dsimp only at hSw); go_simp; try with_reducible rfl)
        simp only [Act.put, List.setIfInBounds_toArray, List.set_cons_zero, List.set_cons_succ]
        refine lastAny_take (i := 9) (oi := ⟨some 48, _, _, _, _, _⟩) (v := ?_) rfl (by kernel_rfl) (by kernel_rfl) (by kernel_rfl) (by kernel_rfl) (fun _ _ _ h => h) (Or.inl ⟨by kernel_rfl, ?hy9⟩) (by assumption) ?_
        case hy9 => (intro w' hSw; (try dsimp only at hSw); go_simp; try with_reducible rfl)
        simp only [Act.put, List.setIfInBounds_toArray, List.set_cons_zero, List.set_cons_succ]
        refine lastAny_ready (rs := [10]) (by kernel_rfl) (by simp) ?_
        refine AllReadyL.cons (o := ⟨some 49, _, _, _, _, _⟩) rfl (fun K hK => ?_) AllReadyL.nil
        (rw [if_pos (by kernel_rfl)])
        go_simp
        refine hK.out _ _ ⟨p1, p2, p3⟩ (fun hHeld => ?_)
        clear hK K
        refine lastAny_ready (rs := [11]) (by kernel_rfl) (by simp) ?_
        refine AllReadyL.cons (o := ⟨some 50, _, _, _, _, _⟩) rfl (fun K hK => ?_) AllReadyL.nil
        refine step_append_g (by kernel_rfl) (.tmp 47) (.tmp 49) 83 rfl _ _ rfl rfl Hrun.out ?_
        refine hK.out _ _ ⟨z1, z4, z5⟩ (fun hHeld => ?_)
        clear hK K
        refine lastAny_ready (rs := [12]) (by kernel_rfl) (by simp) ?_
        refine AllReadyL.cons (o := ⟨some 51, _, _, _, _, _⟩) rfl (fun K hK => ?_) AllReadyL.nil
        (rw [if_pos (by kernel_rfl)])
        go_simp
        refine hK.out _ _ ⟨z1, z4, z5⟩ (fun hHeld => ?_)
        clear hK K
        refine lastAny_take (i := 13) (oi := ⟨some 52, _, _, _, _, _⟩) (v := ?_) rfl (by kernel_rfl) (by kernel_rfl) (by kernel_rfl) (by kernel_rfl) (fun _ _ _ h => h) (Or.inl ⟨by kernel_rfl, ?hy13⟩) (by assumption) ?_
        case hy13 => (intro w' hSw; (try dsimp only at hSw); go_simp; try with_reducible rfl)
        simp only [Act.put, List.setIfInBounds_toArray, List.set_cons_zero, List.set_cons_succ]
        refine lastAny_end (by kernel_rfl) rfl (by kernel_rfl) (by kernel_rfl) (fun K hK => ?_)
        go_simp
        refine hK.out _ _ ?_
        clear hK K
        clear s1 s2 s3 p1 p2 p3 c0 c1 c2 c3 hHeld
        go_wp2_with fail
        go_ret
        exact ⟨rfl, by rw [HWf.out]; exact HF.out⟩
      · have hge : (gr == s.opn) = false := beq_eq_false_iff_ne.2 hgo
        rw [if_pos (by omega)] at hE
        rw [← hE] at hwE
        clear hgo
        clear hE hln hle hsmall hEn hF h3 h4 hopn
        generalize s.back.length + 1 + s.forth.length = m at *
        generalize (s.back.length : Int) = nb at *
        generalize s.opn = op at *
        generalize s.lim = lm at *
        go_wp2_with fail
        refine wp_region_last (S := (fun w' => w'.cell? ⟨b, 1, none⟩ = some (.slice (some ⟨g, o, none⟩) m c) ∧ w'.cell? ⟨w.heap.size, 0, none⟩ = some (.string (bs x.1)) ∧ w'.cell? ⟨w.heap.size, 1, none⟩ = some (.int .i64 (x.2 : Int)))) 14 (by kernel_rfl) (by rw [HW5.out]; exact ⟨s1, s2, s3⟩) (fun hHeld => ?_)
        rw [HW5.out] at hHeld ⊢
        refine lastAny_take (i := 0) (oi := ⟨some 39, _, _, _, _, _⟩) (v := ?_) rfl (by kernel_rfl) (by kernel_rfl) (by kernel_rfl) (by kernel_rfl) (fun _ _ _ h => h) (Or.inl ⟨by kernel_rfl, ?hy0⟩) (by assumption) ?_
        case hy0 => (intro w' hSw; (try dsimp only at hSw); go_simp; try with_reducible rfl)
        simp only [Act.put, List.setIfInBounds_toArray, List.set_cons_zero, List.set_cons_succ]
        refine lastAny_take (i := 1) (oi := ⟨some 40, _, _, _, _, _⟩) (v := ?_) rfl (by kernel_rfl) (by kernel_rfl) (by kernel_rfl) (by kernel_rfl) (fun _ _ _ h => h) (Or.inl ⟨by kernel_rfl, ?hy1⟩) (by assumption) ?_
        case hy1 => (intro w' hSw; (try dsimp only at hSw); go_simp; try with_reducible rfl)
        simp only [Act.put, List.setIfInBounds_toArray, List.set_cons_zero, List.set_cons_succ]
        refine lastAny_take (i := 2) (oi := ⟨some 41, _, _, _, _, _⟩) (v := ?_) rfl (by kernel_rfl) (by kernel_rfl) (by kernel_rfl) (by kernel_rfl) (fun _ _ _ h => h) (Or.inl ⟨by kernel_rfl, ?hy2⟩) (by assumption) ?_
        case hy2 => (intro w' hSw; (try dsimp only at hSw); go_simp; try with_reducible rfl)
        simp only [Act.put, List.setIfInBounds_toArray, List.set_cons_zero, List.set_cons_succ]
        refine lastAny_take (i := 3) (oi := ⟨some 42, _, _, _, _, _⟩) (v := ?_) rfl (by kernel_rfl) (by kernel_rfl) (by kernel_rfl) (by kernel_rfl) (fun _ _ _ h => h) (Or.inl ⟨by kernel_rfl, ?hy3⟩) (by assumption) ?_
        case hy3 => (intro w' hSw; (try dsimp only at hSw); go_simp; try with_reducible rfl)
        simp only [Act.put, List.setIfInBounds_toArray, List.set_cons_zero, List.set_cons_succ]
        refine lastAny_take (i := 4) (oi := ⟨some 43, _, _, _, _, _⟩) (v := ?_) rfl (by kernel_rfl) (by kernel_rfl) (by kernel_rfl) (by kernel_rfl) (fun _ _ _ h => h) (Or.inl ⟨by kernel_rfl, ?hy4⟩) (by assumption) ?_
        case hy4 => (intro w' hSw; (try dsimp only at hSw); go_simp; try with_reducible rfl)
        simp only [Act.put, List.setIfInBounds_toArray, List.set_cons_zero, List.set_cons_succ]
        refine lastAny_take (i := 5) (oi := ⟨some 44, _, _, _, _, _⟩) (v := ?_) rfl (by kernel_rfl) (by kernel_rfl) (by kernel_rfl) (by kernel_rfl) (fun _ _ _ h => h) (Or.inl ⟨by kernel_rfl, ?hy5⟩) (by assumption) ?_
        case hy5 => (intro w' hSw; (try dsimp only at hSw); go_simp; try with_reducible rfl)
        simp only [Act.put, List.setIfInBounds_toArray, List.set_cons_zero, List.set_cons_succ]
        refine lastAny_take (i := 6) (oi := ⟨some 45, _, _, _, _, _⟩) (v := ?_) rfl (by kernel_rfl) (by kernel_rfl) (by kernel_rfl) (by kernel_rfl) (fun _ _ _ h => h) (Or.inl ⟨by kernel_rfl, ?hy6⟩) (by assumption) ?_
        case hy6 => (intro w' hSw; (try dsimp only at hSw); go_simp; try with_reducible rfl)
        simp only [Act.put, List.setIfInBounds_toArray, List.set_cons_zero, List.set_cons_succ]
        refine lastAny_take (i := 7) (oi := ⟨some 46, _, _, _, _, _⟩) (v := ?_) rfl (by kernel_rfl) (by kernel_rfl) (by kernel_rfl) (by kernel_rfl) (fun _ _ _ h => h) (Or.inl ⟨by kernel_rfl, ?hy7⟩) (by assumption) ?_
        case hy7 => (intro w' hSw; (try dsimp only at hSw); go_simp; try with_reducible rfl)
        simp only [Act.put, List.setIfInBounds_toArray, List.set_cons_zero, List.set_cons_succ]
        refine lastAny_take (i := 8) (oi := ⟨some 47, _, _, _, _, _⟩) (v := ?_) rfl (by kernel_rfl) (by kernel_rfl) (by kernel_rfl) (by kernel_rfl) (fun _ _ _ h => h) (Or.inl ⟨by kernel_rfl, ?hy8⟩) (by assumption) ?_
        case hy8 => (intro w' hSw; (try dsimp only at hSw); go_simp; try with_reducible rfl)
        simp only [Act.put, List.setIfInBounds_toArray, List.set_cons_zero, List.set_cons_succ]
        refine lastAny_take (i := 9) (oi := ⟨some 48, _, _, _, _, _⟩) (v := ?_) rfl (by kernel_rfl) (by kernel_rfl) (by kernel_rfl) (by kernel_rfl) (fun _ _ _ h => h) (Or.inl ⟨by kernel_rfl, ?hy9⟩) (by assumption) ?_
        case hy9 => (intro w' hSw; (try dsimp only at hSw); go_simp; try with_reducible rfl)
        simp only [Act.put, List.setIfInBounds_toArray, List.set_cons_zero, List.set_cons_succ]
        refine lastAny_ready (rs := [10]) (by kernel_rfl) (by simp) ?_
        refine AllReadyL.cons (o := ⟨some 49, _, _, _, _, _⟩) rfl (fun K hK => ?_) AllReadyL.nil
        (rw [if_pos (by kernel_rfl)])
        go_simp
        refine hK.out _ _ ⟨p1, p2, p3⟩ (fun hHeld => ?_)
        clear hK K
        refine lastAny_ready (rs := [11]) (by kernel_rfl) (by simp) ?_
        refine AllReadyL.cons (o := ⟨some 50, _, _, _, _, _⟩) rfl (fun K hK => ?_) AllReadyL.nil
        refine step_append_g (by kernel_rfl) (.tmp 47) (.tmp 49) 83 rfl _ _ rfl rfl Hrun.out ?_
        refine hK.out _ _ ⟨z1, z4, z5⟩ (fun hHeld => ?_)
        clear hK K
        refine lastAny_ready (rs := [12]) (by kernel_rfl) (by simp) ?_
        refine AllReadyL.cons (o := ⟨some 51, _, _, _, _, _⟩) rfl (fun K hK => ?_) AllReadyL.nil
        (rw [if_pos (by kernel_rfl)])
        go_simp
        refine hK.out _ _ ⟨z1, z4, z5⟩ (fun hHeld => ?_)
        clear hK K
        refine lastAny_take (i := 13) (oi := ⟨some 52, _, _, _, _, _⟩) (v := ?_) rfl (by kernel_rfl) (by kernel_rfl) (by kernel_rfl) (by kernel_rfl) (fun _ _ _ h => h) (Or.inl ⟨by kernel_rfl, ?hy13⟩) (by assumption) ?_
        case hy13 => (intro w' hSw; (try dsimp only at hSw); go_simp; try with_reducible rfl)
        simp only [Act.put, List.setIfInBounds_toArray, List.set_cons_zero, List.set_cons_succ]
        refine lastAny_end (by kernel_rfl) rfl (by kernel_rfl) (by kernel_rfl) (fun K hK => ?_)
        go_simp
        refine hK.out _ _ ?_
        clear hK K
        clear s1 s2 s3 p1 p2 p3 c0 c1 c2 c3 hHeld
        go_wp2_with fail
        go_ret
        exact ⟨rfl, by rw [HWf.out]; exact HF.out⟩
    · rw [if_pos (by omega)] at hE
      have hgd : decide (0 < gr) = false := decide_eq_false hgr
      rw [← hE] at hwE
      clear hE hln hle hsmall hEn hF h3 h4 hopn
      generalize s.back.length + 1 + s.forth.length = m at *
      generalize (s.back.length : Int) = nb at *
      generalize s.opn = op at *
      generalize s.lim = lm at *
      go_wp2_with fail
      refine wp_region_last (S := (fun w' => w'.cell? ⟨b, 1, none⟩ = some (.slice (some ⟨g, o, none⟩) m c) ∧ w'.cell? ⟨w.heap.size, 0, none⟩ = some (.string (bs x.1)) ∧ w'.cell? ⟨w.heap.size, 1, none⟩ = some (.int .i64 (x.2 : Int)))) 14 (by kernel_rfl) (by rw [HW5.out]; exact ⟨s1, s2, s3⟩) (fun hHeld => ?_)
      rw [HW5.out] at hHeld ⊢
      refine lastAny_take (i := 0) (oi := ⟨some 39, _, _, _, _, _⟩) (v := ?_) rfl (by kernel_rfl) (by kernel_rfl) (by kernel_rfl) (by kernel_rfl) (fun _ _ _ h => h) (Or.inl ⟨by kernel_rfl, ?hy0⟩) (by assumption) ?_
      case hy0 => (intro w' hSw; (try dsimp only at hSw); go_simp; try with_reducible rfl)
      simp only [Act.put, List.setIfInBounds_toArray, List.set_cons_zero, List.set_cons_succ]
      refine lastAny_take (i := 1) (oi := ⟨some 40, _, _, _, _, _⟩) (v := ?_) rfl (by kernel_rfl) (by kernel_rfl) (by kernel_rfl) (by kernel_rfl) (fun _ _ _ h => h) (Or.inl ⟨by kernel_rfl, ?hy1⟩) (by assumption) ?_
      case hy1 => (intro w' hSw; (try dsimp only at hSw); go_simp; try with_reducible rfl)
      simp only [Act.put, List.setIfInBounds_toArray, List.set_cons_zero, List.set_cons_succ]
      refine lastAny_take (i := 2) (oi := ⟨some 41, _, _, _, _, _⟩) (v := ?_) rfl (by kernel_rfl) (by kernel_rfl) (by kernel_rfl) (by kernel_rfl) (fun _ _ _ h => h) (Or.inl ⟨by kernel_rfl, ?hy2⟩) (by assumption) ?_
      case hy2 => (intro w' hSw; (try dsimp only at hSw); go_simp; try with_reducible rfl)
      simp only [Act.put, List.setIfInBounds_toArray, List.set_cons_zero, List.set_cons_succ]
      refine lastAny_take (i := 3) (oi := ⟨some 42, _, _, _, _, _⟩) (v := ?_) rfl (by kernel_rfl) (by kernel_rfl) (by kernel_rfl) (by kernel_rfl) (fun _ _ _ h => h) (Or.inl ⟨by kernel_rfl, ?hy3⟩) (by assumption) ?_
      case hy3 => (intro w' hSw; (try dsimp only at hSw); go_simp; try with_reducible rfl)
      simp only [Act.put, List.setIfInBounds_toArray, List.set_cons_zero, List.set_cons_succ]
      refine lastAny_take (i := 4) (oi := ⟨some 43, _, _, _, _, _⟩) (v := ?_) rfl (by kernel_rfl) (by kernel_rfl) (by kernel_rfl) (by kernel_rfl) (fun _ _ _ h => h) (Or.inl ⟨by kernel_rfl, ?hy4⟩) (by assumption) ?_
      case hy4 => (intro w' hSw; (try dsimp only at hSw); go_simp; try with_reducible rfl)
      simp only [Act.put, List.setIfInBounds_toArray, List.set_cons_zero, List.set_cons_succ]
      refine lastAny_take (i := 5) (oi := ⟨some 44, _, _, _, _, _⟩) (v := ?_) rfl (by kernel_rfl) (by kernel_rfl) (by kernel_rfl) (by kernel_rfl) (fun _ _ _ h => h) (Or.inl ⟨by kernel_rfl, ?hy5⟩) (by assumption) ?_
      case hy5 => (intro w' hSw; (try dsimp only at hSw); go_simp; try with_reducible rfl)
      simp only [Act.put, List.setIfInBounds_toArray, List.set_cons_zero, List.set_cons_succ]
      refine lastAny_take (i := 6) (oi := ⟨some 45, _, _, _, _, _⟩) (v := ?_) rfl (by kernel_rfl) (by kernel_rfl) (by kernel_rfl) (by kernel_rfl) (fun _ _ _ h => h) (Or.inl ⟨by kernel_rfl, ?hy6⟩) (by assumption) ?_
      case hy6 => (intro w' hSw; (try dsimp only at hSw); go_simp; try with_reducible rfl)
      simp only [Act.put, List.setIfInBounds_toArray, List.set_cons_zero, List.set_cons_succ]
      refine lastAny_take (i := 7) (oi := ⟨some 46, _, _, _, _, _⟩) (v := ?_) rfl (by kernel_rfl) (by kernel_rfl) (by kernel_rfl) (by kernel_rfl) (fun _ _ _ h => h) (Or.inl ⟨by kernel_rfl, ?hy7⟩) (by assumption) ?_
      case hy7 => (intro w' hSw; (try dsimp only at hSw); go_simp; try with_reducible rfl)
      simp only [Act.put, List.setIfInBounds_toArray, List.set_cons_zero, List.set_cons_succ]
      refine lastAny_take (i := 8) (oi := ⟨some 47, _, _, _, _, _⟩) (v := ?_) rfl (by kernel_rfl) (by kernel_rfl) (by kernel_rfl) (by kernel_rfl) (fun _ _ _ h => h) (Or.inl ⟨by kernel_rfl, ?hy8⟩) (by assumption) ?_
      case hy8 => (intro w' hSw; (try dsimp only at hSw); go_simp; try with_reducible rfl)
      simp only [Act.put, List.setIfInBounds_toArray, List.set_cons_zero, List.set_cons_succ]
      refine lastAny_take (i := 9) (oi := ⟨some 48, _, _, _, _, _⟩) (v := ?_) rfl (by kernel_rfl) (by kernel_rfl) (by kernel_rfl) (by kernel_rfl) (fun _ _ _ h => h) (Or.inl ⟨by kernel_rfl, ?hy9⟩) (by assumption) ?_
      case hy9 => (intro w' hSw; (try dsimp only at hSw); go_simp; try with_reducible rfl)
      simp only [Act.put, List.setIfInBounds_toArray, List.set_cons_zero, List.set_cons_succ]
      refine lastAny_ready (rs := [10]) (by kernel_rfl) (by simp) ?_
      refine AllReadyL.cons (o := ⟨some 49, _, _, _, _, _⟩) rfl (fun K hK => ?_) AllReadyL.nil
      (rw [if_pos (by kernel_rfl)])
      go_simp
      refine hK.out _ _ ⟨p1, p2, p3⟩ (fun hHeld => ?_)
      clear hK K
      refine lastAny_ready (rs := [11]) (by kernel_rfl) (by simp) ?_
      refine AllReadyL.cons (o := ⟨some 50, _, _, _, _, _⟩) rfl (fun K hK => ?_) AllReadyL.nil
      refine step_append_g (by kernel_rfl) (.tmp 47) (.tmp 49) 83 rfl _ _ rfl rfl Hrun.out ?_
      refine hK.out _ _ ⟨z1, z4, z5⟩ (fun hHeld => ?_)
      clear hK K
      refine lastAny_ready (rs := [12]) (by kernel_rfl) (by simp) ?_
      refine AllReadyL.cons (o := ⟨some 51, _, _, _, _, _⟩) rfl (fun K hK => ?_) AllReadyL.nil
      (rw [if_pos (by kernel_rfl)])
      go_simp
      refine hK.out _ _ ⟨z1, z4, z5⟩ (fun hHeld => ?_)
      clear hK K
      refine lastAny_take (i := 13) (oi := ⟨some 52, _, _, _, _, _⟩) (v := ?_) rfl (by kernel_rfl) (by kernel_rfl) (by kernel_rfl) (by kernel_rfl) (fun _ _ _ h => h) (Or.inl ⟨by kernel_rfl, ?hy13⟩) (by assumption) ?_
      case hy13 => (intro w' hSw; (try dsimp only at hSw); go_simp; try with_reducible rfl)
      simp only [Act.put, List.setIfInBounds_toArray, List.set_cons_zero, List.set_cons_succ]
      refine lastAny_end (by kernel_rfl) rfl (by kernel_rfl) (by kernel_rfl) (fun K hK => ?_)
      go_simp
      refine hK.out _ _ ?_
      clear hK K
      clear s1 s2 s3 p1 p2 p3 c0 c1 c2 c3 hHeld
      go_wp2_with fail
      go_ret
      exact ⟨rfl, by rw [HWf.out]; exact HF.out⟩
end
end Go.Proofs.YtoaponaljkhlfaaDoor
