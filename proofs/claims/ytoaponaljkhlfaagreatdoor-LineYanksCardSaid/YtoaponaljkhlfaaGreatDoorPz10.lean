/-
  Layer 7 and what it stands on, part 10 (LogB LogM).
-/
import Derived.Test.YtoaponaljkhlfaaGreatDoorPz1
import Derived.Test.YtoaponaljkhlfaaGreatDoorPz6
import Derived.Test.YtoaponaljkhlfaaGreatDoorPz9
import Derived.WalkKit
import Derived.BigQuiet
import Derived.IntWalk
import Derived.Lib.MinMax
import Derived.Lib.Strings
import Derived.Deep.RegionHeld3
import Derived.Recover
import Derived.Defers
namespace Go.Proofs.YtoaponaljkhlfaaGreatDoor
section
open Go Go.RowKit
open Go.Lib (hid)
set_option maxRecDepth 100000
abbrev bufV (x : Bf) : Value := .agg #[.string (bs x.1), .int .i64 (x.2 : Int)]
def bufC (x : Bf) : List Value := [.string (bs x.1), .int .i64 (x.2 : Int)]
theorem bufC_length (x : Bf) : (bufC x).length = 2 := rfl
abbrev LogB (w : World) (R : Nat → Prop) (b : Nat) (s : LS Bf) : Prop := LogT bufC 112 w R b s
theorem objB : ObjL LogB := objT _ _
abbrev ToBB := ToB LogB
theorem szB (W : World) : (sizeOf 43).run Tryz.prog W = .ok 2 W := by simp [sizeOf, typeInfo, go_sem]; kernel_rfl
set_option maxHeartbeats 2000000 in
theorem now_callsB (w : World) (R : Nat → Prop) (b : Nat) (s : LS Bf) (h : LogB w R b s) :
  Calls Tryz.prog 35 #[.pointer (some ⟨b, 0, none⟩)] w fun e w' => e = .returned (bufV s.now) ∧ Below w.heap.size w w' := by
 obtain ⟨W1, hW1⟩ : ∃ W1, w.alloc (.cells #[.string ⟨#[]⟩, .int .i64 0] 43) = W1 := ⟨_, rfl⟩
 have hB1 : Below w.heap.size w W1 := by rw [← hW1]; exact (Below.refl _ w).alloc (Nat.le_refl _) _
 have x0 : Bx W1 w.heap.size 43 (.string ⟨#[]⟩) (.int .i64 0) := by rw [← hW1]; exact Bx.new w _ _ _
 obtain ⟨g, o, c, hb, hrow, hgb, hg, h3, h4⟩ := (objB.below h hB1).open_
 have k0 : W1.cell? ⟨g, o + s.back.length * 2, none⟩ = some (.string (bs s.now.1)) := hrow.cells bufC_length (j := 0) rfl
 have k1 : W1.cell? ⟨g, o + s.back.length * 2 + 1, none⟩ = some (.int .i64 (s.now.2 : Int)) := hrow.cells bufC_length (j := 1) rfl
 have c1 := hb.c 1 rfl
 have c2 := hb.c 2 rfl
 have hln := h.ok.len
 have hle := h.ok.le
 have hi1 : s.back.length < s.back.length + 1 + s.forth.length := by omega
 have hi2 : (s.back.length : Int) < ((s.back.length + 1 + s.forth.length : Nat) : Int) := by omega
 have HB1 := hid hB1
 have HX := hid x0
 have e0 := x0.c0
 have e1 := x0.c1
 have f0 := x0.f0
 have f1 := x0.f1
 clear hb hrow h x0 hB1
 generalize s.back.length + 1 + s.forth.length = m at *
 generalize s.back.length = n at *
 generalize s.now = x at *
 go_enter Tryz.func35, Tryz.ntmps35
 go_wp2_with fail
 refine wp_region_last (S := (fun w' => w'.cell? ⟨b, 1, none⟩ = some (.slice (some ⟨g, o, none⟩) m c) ∧ w'.cell? ⟨b, 2, none⟩ = some (.int .i64 (n : Int)) ∧ w'.cell? ⟨g, o + n * 2, none⟩ = some (.string (bs x.1)) ∧ w'.cell? ⟨g, o + n * 2 + 1, none⟩ = some (.int .i64 (x.2 : Int)))) 10 (by kernel_rfl) ⟨c1, c2, k0, k1⟩ (fun hHeld => ?_)
 refine tkL 0 ?_
 refine tkL 1 ?_
 refine tkL 2 ?_
 refine tkL 3 ?_
 refine tkL 4 ?_
 refine tkL 5 ?_
 refine tkL 6 ?_
 refine tkL 7 ?_
 refine tkL 8 ?_
 refine tkL 9 ?_
 refine enL fun K hK => ?_
 go_simp
 refine hK.out _ _ ?_
 clear hK K
 go_wp2_with fail
 refine bodyPost_ret (results_bx rfl _ _ w.heap.size (.string (bs x.1)) (.int .i64 (x.2 : Int)) 43 rfl (((HX.out.set0 _).set1 _).drew) Tryz.underlying43 (szB _)) rfl ?_
 exact ⟨rfl, ((HB1.out.setCell (p := ⟨w.heap.size, 0, none⟩) (Nat.le_refl _) _).setCell (p := ⟨w.heap.size, 1, none⟩) (Nat.le_refl _) _).drew⟩
set_option maxHeartbeats 1000000 in
theorem len_callsB (w : World) (R : Nat → Prop) (b : Nat) (s : LS Bf) (h : LogB w R b s) :
  Calls Tryz.prog 33 #[.pointer (some ⟨b, 0, none⟩)] w fun e w' => e = .returned (.tuple #[.int .i64 (s.back.length : Int), .int .i64 (s.forth.length : Int)]) ∧ Below w.heap.size w w' := by
 obtain ⟨g, o, c, hb, hrow, hgb, hg, h3, h4⟩ := h.open_
 have c1 := hb.c 1 rfl
 have c2 := hb.c 2 rfl
 have hln := h.ok.len
 have hle := h.ok.le
 obtain ⟨m, hm⟩ : ∃ m, s.back.length + 1 + s.forth.length = m := ⟨_, rfl⟩
 have hw1 : IntKind.i64.wrap ((m : Int) - (s.back.length : Int)) = (m : Int) - (s.back.length : Int) := IntWalk.i64_in _ (by omega)
 have hw2 : IntKind.i64.wrap ((m : Int) - (s.back.length : Int) - 1) = (s.forth.length : Int) := by rw [IntWalk.i64_in _ (by omega)]; omega
 rw [hm] at c1
 clear hb hrow h hm
 generalize s.back.length = n at *
 generalize s.forth.length = k at *
 go_enter Tryz.func33, Tryz.ntmps33
 go_wp2
 go_quiet (fail)
 go_wp2
 go_ret2
 exact ⟨rfl, bel_drewK (Below.refl _ _) _⟩
theorem same_idleB (w : World) :
  CallsD Tryz.prog 134 #[] .returning w fun e u' w' => e = .returned (.tuple #[]) ∧ u' = .returning ∧ w' = w := by
 refine callsD_of_wpS Tryz.func134 rfl fun c₀ cs hu => ?_
 apply wpS_region
 cases c₀
 simp_all [wpOpsS, go_sem, recoverD, Tryz.ntmps134, bodyPostS, results, Tryz.results134]
theorem same_callsB (x y : Bf) (w : World) :
  Calls Tryz.prog 125 #[bufV x, bufV y] w fun e w' => e = .returned (.bool (decide (x = y))) ∧ Below w.heap.size w w' := by
 go_enter_defers Tryz.func125, Tryz.ntmps125
 go_wp2
 all_goals refine leaves_cons (f := 134) (args := #[]) (by simp) (by simp [go_sem]) ?_
 all_goals refine (same_idleB _).mono ?_
 all_goals rintro e u' w'' ⟨rfl, rfl, rfl⟩
 all_goals refine ⟨_, results_tmp rfl _ _ _, ?_, ((Below.refl _ w).alloc (Nat.le_refl _) _).alloc (by simp) _⟩
 ·rename_i h1 h2
  exact congrArg (fun q => Ending.returned (.bool q)) (decide_eq_true (Prod.ext h1 (by omega))).symm
 ·rename_i h1 h2
  exact congrArg (fun q => Ending.returned (.bool q)) (decide_eq_false (fun e => h2 (by rw [e]))).symm
 ·rename_i h1
  exact congrArg (fun q => Ending.returned (.bool q)) (decide_eq_false (fun e => h1 (by rw [e]))).symm
theorem break_rawB (w : World) (b : Nat) {v : Value} (c3 : w.cell? ⟨b, 3, none⟩ = some v) (f3 : w.frozen? ⟨b, 3, none⟩ = false) :
  Calls Tryz.prog 52 #[.pointer (some ⟨b, 0, none⟩)] w fun e w' => e = .returned (.tuple #[]) ∧ w' = w.setCell ⟨b, 3, none⟩ (.int .i64 0) := by
 go_enter Tryz.func52, Tryz.ntmps52
 go_wp2
 go_end0
 exact ⟨rfl, rfl⟩
set_option maxHeartbeats 2000000 in
theorem stand_outB (w : World) (R : Nat → Prop) (b : Nat) (s : LS Bf) (h : LogB w R b s) (n : Int) (hn : n < 0 ∨ ((s.back.length + 1 + s.forth.length : Nat) : Int) ≤ n) :
  Calls Tryz.prog 131 #[.pointer (some ⟨b, 0, none⟩), .int .i64 n] w fun e w' => e = .returned (.tuple #[bufV s.now, .bool false]) ∧ Below w.heap.size w w' := by
 obtain ⟨W1, hW1⟩ : ∃ W1, w.alloc (.cells #[.string ⟨#[]⟩, .int .i64 0] 43) = W1 := ⟨_, rfl⟩
 have hB1 : Below w.heap.size w W1 := by rw [← hW1]; exact (Below.refl _ w).alloc (Nat.le_refl _) _
 have x0 : Bx W1 w.heap.size 43 (.string ⟨#[]⟩) (.int .i64 0) := by rw [← hW1]; exact Bx.new w _ _ _
 have h1 := objB.below h hB1
 obtain ⟨g, o, c, hb, hrow, hgb, hg, h3, h4⟩ := h1.open_
 have c1 := hb.c 1 rfl
 have Hn := hid (now_callsB W1 R b s h1)
 have HB1 := hid hB1
 have HX := hid x0
 clear hb hrow h h1 x0 hB1
 generalize s.back.length + 1 + s.forth.length = m at *
 generalize s.now = x at *
 by_cases hz : n < 0
 ·have hz1 : decide (n < 0) = true := decide_eq_true hz
  clear hn
  go_enter Tryz.func131, Tryz.ntmps131
  go_wp2_with fail
  refine Hn.out.mono ?_
  rintro e w2 ⟨rfl, hb2⟩
  have HB := hid (HB1.out.trans (hb2.mono HB1.out.size))
  have x2 := HX.out.below hb2
  have e0 := x2.c0
  have e1 := x2.c1
  have f0 := x2.f0
  have f1 := x2.f1
  have X2 := hid x2
  clear hb2 Hn x2
  go_wp2_with fail
  refine bodyPost_ret (results_bx2 rfl _ _ w.heap.size (.string (bs x.1)) (.int .i64 (x.2 : Int)) 43 rfl ((X2.out.set0 _).set1 _) Tryz.underlying43 (szB _)) rfl ?_
  exact ⟨rfl, (HB.out.setCell (p := ⟨w.heap.size, 0, none⟩) (Nat.le_refl _) _).setCell (p := ⟨w.heap.size, 1, none⟩) (Nat.le_refl _) _⟩
 ·have hz1 : decide (n < 0) = false := decide_eq_false hz
  have hn' : (m : Int) ≤ n := by omega
  have hz2 : decide ((m : Int) ≤ n) = true := decide_eq_true hn'
  clear hn
  go_enter Tryz.func131, Tryz.ntmps131
  go_wp2_with fail
  refine Hn.out.mono ?_
  rintro e w2 ⟨rfl, hb2⟩
  have HB := hid (HB1.out.trans (hb2.mono HB1.out.size))
  have x2 := HX.out.below hb2
  have e0 := x2.c0
  have e1 := x2.c1
  have f0 := x2.f0
  have f1 := x2.f1
  have X2 := hid x2
  clear hb2 Hn x2
  go_wp2_with fail
  refine bodyPost_ret (results_bx2 rfl _ _ w.heap.size (.string (bs x.1)) (.int .i64 (x.2 : Int)) 43 rfl ((X2.out.set0 _).set1 _) Tryz.underlying43 (szB _)) rfl ?_
  exact ⟨rfl, (HB.out.setCell (p := ⟨w.heap.size, 0, none⟩) (Nat.le_refl _) _).setCell (p := ⟨w.heap.size, 1, none⟩) (Nat.le_refl _) _⟩
set_option maxHeartbeats 2000000 in
theorem stand_inB (w : World) (R : Nat → Prop) (b : Nat) (s s' : LS Bf) (h : LogB w R b s) (hok : s'.Ok) (hrw : rowL s' = rowL s) (hlm : s'.lim = s.lim) (hop : s'.opn = 0) :
  Calls Tryz.prog 131 #[.pointer (some ⟨b, 0, none⟩), .int .i64 (s'.back.length : Int)] w fun e w' => e = .returned (.tuple #[bufV s'.now, .bool true]) ∧ ToBB w R w' b s' := by
 obtain ⟨W1, hW1⟩ : ∃ W1, w.alloc (.cells #[.string ⟨#[]⟩, .int .i64 0] 43) = W1 := ⟨_, rfl⟩
 have hB1 : Below w.heap.size w W1 := by rw [← hW1]; exact (Below.refl _ w).alloc (Nat.le_refl _) _
 have x0 : Bx W1 w.heap.size 43 (.string ⟨#[]⟩) (.int .i64 0) := by rw [← hW1]; exact Bx.new w _ _ _
 have h1 := objB.below h hB1
 obtain ⟨g, o, c, hb, hrow, hgb, hg, h3, h4⟩ := h1.open_
 have hbw := objB.lt h b h.ins
 have c1 := hb.c 1 rfl
 have c2 := hb.c 2 rfl
 have c3 := hb.c 3 rfl
 have f2 := hb.free 2
 have f3 := hb.free 3
 have hln := congrArg List.length hrw
 rw [rowL_length, rowL_length] at hln
 have hp := logT_place h1 hok hrw hlm
 rw [hop] at hp
 have hz1 : decide ((s'.back.length : Int) < 0) = false := decide_eq_false (by omega)
 have hz0 : ¬ ((s'.back.length : Int) < 0) := by omega
 have hz2 : decide (((s.back.length + 1 + s.forth.length : Nat) : Int) ≤ (s'.back.length : Int)) = false := decide_eq_false (by omega)
 have hz3 : ¬ (((s.back.length + 1 + s.forth.length : Nat) : Int) ≤ (s'.back.length : Int)) := by omega
 clear hln hrow
 generalize s.back.length + 1 + s.forth.length = m at *
 obtain ⟨W2, hW2⟩ : ∃ W2, (W1.setCell ⟨b, 2, none⟩ (.int .i64 (s'.back.length : Int))).setCell ⟨b, 3, none⟩ (.int .i64 0) = W2 := ⟨_, rfl⟩
 have Hb := hid (break_rawB (W1.setCell ⟨b, 2, none⟩ (.int .i64 (s'.back.length : Int))) b (v := .int .i64 s.opn) ((World.cell?_setCell_other _ _ _ _ (by simp)).trans c3) ((World.frozen?_setCell ..).trans f3))
 have hx2 : Bx W2 w.heap.size 43 (.string ⟨#[]⟩) (.int .i64 0) := by rw [← hW2]; exact (x0.other (by omega) _).other (by omega) _
 rw [hW2] at hp Hb
 have Hn := hid (now_callsB W2 R b s' hp.1)
 have HP := hid hp
 have HX := hid hx2
 have Hlt : Hid (w.heap.size < W1.heap.size) := hid x0.lt
 have HB1 := hid hB1
 have HR := hid h
 clear hb h h1 hp hrw hlm hop hok x0 hx2 hB1 hbw
 generalize (s'.back.length : Int) = k at *
 generalize s'.now = x at *
 go_enter Tryz.func131, Tryz.ntmps131
 go_wp2_with fail
 refine Hb.out.mono ?_
 rintro e w2 ⟨rfl, rfl⟩
 clear Hb hW2
 go_wp2_with fail
 refine Hn.out.mono ?_
 rintro e w3 ⟨rfl, hb3⟩
 have x2 := HX.out.below hb3
 have e0 := x2.c0
 have e1 := x2.c1
 have f0 := x2.f0
 have f1 := x2.f1
 have X2 := hid x2
 have HT : Hid (ToBB w R ((w3.setCell ⟨w.heap.size, 0, none⟩ (.string (bs x.1))).setCell ⟨w.heap.size, 1, none⟩ (.int .i64 (x.2 : Int))) b s') := hid (ToB.past objB HR.out HB1.out Hlt.out (ToB.below objB ⟨R, HP.out.1, HP.out.2, fun _ h => .inl h⟩ hb3) _ _ _ _)
 clear hb3 Hn x2
 go_wp2_with fail
 refine bodyPost_ret (results_bx2 rfl _ _ w.heap.size (.string (bs x.1)) (.int .i64 (x.2 : Int)) 43 rfl ((X2.out.set0 _).set1 _) Tryz.underlying43 (szB _)) rfl ?_
 exact ⟨rfl, HT.out⟩
set_option maxHeartbeats 2000000 in
theorem undo_callsB (w : World) (R : Nat → Prop) (b : Nat) (s : LS Bf) (h : LogB w R b s) :
  Calls Tryz.prog 117 #[.pointer (some ⟨b, 0, none⟩)] w fun e w' => e = .returned (.tuple #[bufV s.undo.now, .bool (decide (s.back ≠ []))]) ∧ ToBB w R w' b s.undo := by
 obtain ⟨W1, hW1⟩ : ∃ W1, w.alloc (.cells #[.string ⟨#[]⟩, .int .i64 0] 43) = W1 := ⟨_, rfl⟩
 have hB1 : Below w.heap.size w W1 := by rw [← hW1]; exact (Below.refl _ w).alloc (Nat.le_refl _) _
 have x0 : Bx W1 w.heap.size 43 (.string ⟨#[]⟩) (.int .i64 0) := by rw [← hW1]; exact Bx.new w _ _ _
 have h1 := objB.below h hB1
 obtain ⟨g, o, c, hb, hrow, hgb, hg, h3, h4⟩ := h1.open_
 have hbw := objB.lt h b h.ins
 have c2 := hb.c 2 rfl
 have hln := h.ok.len
 have hle := h.ok.le
 have hw1 : IntKind.i64.wrap ((s.back.length : Int) - 1) = (s.back.length : Int) - 1 := IntWalk.i64_in _ (by omega)
 have Hs : Hid (Calls Tryz.prog 131 #[.pointer (some ⟨b, 0, none⟩), .int .i64 ((s.back.length : Int) - 1)] W1 fun e w' => e = .returned (.tuple #[bufV s.undo.now, .bool (decide (s.back ≠ []))]) ∧ ToBB W1 R w' b s.undo) := hid (by
  by_cases hbk : s.back = []
  ·rw [show s.undo = s by unfold LS.undo; rw [if_pos hbk], show decide (s.back ≠ []) = false from decide_eq_false (fun h => h hbk)]
   refine (stand_outB W1 R b s h1 _ (.inl (by rw [hbk]; decide))).mono ?_
   rintro e w' ⟨rfl, hb'⟩
   exact ⟨rfl, ToB.of_below objB h1 hb'⟩
  ·obtain ⟨hrw, hbl, hlm, hop⟩ := rowL_undo hbk
   have hpos : 0 < s.back.length := List.length_pos_iff.2 hbk
   rw [show decide (s.back ≠ []) = true from decide_eq_true hbk, show (s.back.length : Int) - 1 = (s.undo.back.length : Int) by omega]
   exact stand_inB W1 R b s s.undo h1 h1.ok.undo hrw hlm hop)
 have HX := hid x0
 have HB1 := hid hB1
 have HR := hid h
 have hne : ¬ w.heap.size = b := by omega
 clear hb hrow h h1 x0 hB1 hbw
 generalize s.undo.now = x at *
 generalize decide (s.back ≠ []) = q at *
 generalize (s.back.length : Int) = k at *
 go_enter Tryz.func117, Tryz.ntmps117
 go_wp2_with fail
 refine Hs.out.mono ?_
 rintro e w2 ⟨rfl, ht⟩
 have x2 : Bx w2 w.heap.size 43 (.string ⟨#[]⟩) (.int .i64 0) := by
  obtain ⟨_, _, ho, _⟩ := ht
  exact HX.out.keepO ho hne
 have HT : Hid (ToBB w R ((w2.setCell ⟨w.heap.size, 0, none⟩ (.string (bs x.1))).setCell ⟨w.heap.size, 1, none⟩ (.int .i64 (x.2 : Int))) b s.undo) := hid (ToB.past objB HR.out HB1.out HX.out.lt ht _ _ _ _)
 have e0 := x2.c0
 have e1 := x2.c1
 have f0 := x2.f0
 have f1 := x2.f1
 have X2 := hid x2
 clear ht Hs x2
 go_wp2_with fail
 refine bodyPost_ret (results_bx2 rfl _ _ w.heap.size (.string (bs x.1)) (.int .i64 (x.2 : Int)) 43 rfl ((X2.out.set0 _).set1 _) Tryz.underlying43 (szB _)) rfl ?_
 exact ⟨rfl, HT.out⟩
set_option maxHeartbeats 2000000 in
theorem redo_callsB (w : World) (R : Nat → Prop) (b : Nat) (s : LS Bf) (h : LogB w R b s) :
  Calls Tryz.prog 118 #[.pointer (some ⟨b, 0, none⟩)] w fun e w' => e = .returned (.tuple #[bufV s.redo.now, .bool (decide (s.forth ≠ []))]) ∧ ToBB w R w' b s.redo := by
 obtain ⟨W1, hW1⟩ : ∃ W1, w.alloc (.cells #[.string ⟨#[]⟩, .int .i64 0] 43) = W1 := ⟨_, rfl⟩
 have hB1 : Below w.heap.size w W1 := by rw [← hW1]; exact (Below.refl _ w).alloc (Nat.le_refl _) _
 have x0 : Bx W1 w.heap.size 43 (.string ⟨#[]⟩) (.int .i64 0) := by rw [← hW1]; exact Bx.new w _ _ _
 have h1 := objB.below h hB1
 obtain ⟨g, o, c, hb, hrow, hgb, hg, h3, h4⟩ := h1.open_
 have hbw := objB.lt h b h.ins
 have c2 := hb.c 2 rfl
 have hln := h.ok.len
 have hle := h.ok.le
 have hw1 : IntKind.i64.wrap ((s.back.length : Int) + 1) = (s.back.length : Int) + 1 := IntWalk.i64_in _ (by omega)
 have Hs : Hid (Calls Tryz.prog 131 #[.pointer (some ⟨b, 0, none⟩), .int .i64 ((s.back.length : Int) + 1)] W1 fun e w' => e = .returned (.tuple #[bufV s.redo.now, .bool (decide (s.forth ≠ []))]) ∧ ToBB W1 R w' b s.redo) := hid (by
  by_cases hbk : s.forth = []
  ·rw [show s.redo = s by unfold LS.redo; rw [if_pos hbk], show decide (s.forth ≠ []) = false from decide_eq_false (fun h => h hbk)]
   refine (stand_outB W1 R b s h1 _ (.inr (by rw [hbk]; simp))).mono ?_
   rintro e w' ⟨rfl, hb'⟩
   exact ⟨rfl, ToB.of_below objB h1 hb'⟩
  ·obtain ⟨hrw, hbl, hlm, hop⟩ := rowL_redo hbk
   have hpos : 0 < s.forth.length := List.length_pos_iff.2 hbk
   rw [show decide (s.forth ≠ []) = true from decide_eq_true hbk, show (s.back.length : Int) + 1 = (s.redo.back.length : Int) by omega]
   exact stand_inB W1 R b s s.redo h1 h1.ok.redo hrw hlm hop)
 have HX := hid x0
 have HB1 := hid hB1
 have HR := hid h
 have hne : ¬ w.heap.size = b := by omega
 clear hb hrow h h1 x0 hB1 hbw
 generalize s.redo.now = x at *
 generalize decide (s.forth ≠ []) = q at *
 generalize (s.back.length : Int) = k at *
 go_enter Tryz.func118, Tryz.ntmps118
 go_wp2_with fail
 refine Hs.out.mono ?_
 rintro e w2 ⟨rfl, ht⟩
 have x2 : Bx w2 w.heap.size 43 (.string ⟨#[]⟩) (.int .i64 0) := by
  obtain ⟨_, _, ho, _⟩ := ht
  exact HX.out.keepO ho hne
 have HT : Hid (ToBB w R ((w2.setCell ⟨w.heap.size, 0, none⟩ (.string (bs x.1))).setCell ⟨w.heap.size, 1, none⟩ (.int .i64 (x.2 : Int))) b s.redo) := hid (ToB.past objB HR.out HB1.out HX.out.lt ht _ _ _ _)
 have e0 := x2.c0
 have e1 := x2.c1
 have f0 := x2.f0
 have f1 := x2.f1
 have X2 := hid x2
 clear ht Hs x2
 go_wp2_with fail
 refine bodyPost_ret (results_bx2 rfl _ _ w.heap.size (.string (bs x.1)) (.int .i64 (x.2 : Int)) 43 rfl ((X2.out.set0 _).set1 _) Tryz.underlying43 (szB _)) rfl ?_
 exact ⟨rfl, HT.out⟩
theorem break_callsB (w : World) (R : Nat → Prop) (b : Nat) (s : LS Bf) (h : LogB w R b s) :
  Calls Tryz.prog 52 #[.pointer (some ⟨b, 0, none⟩)] w fun e w' => e = .returned (.tuple #[]) ∧ ToBB w R w' b s.brk := by
 obtain ⟨g, o, c, hb, hrow, hgb, hg, h3, h4⟩ := h.open_
 have hp := logT_group h h.ok.brk (s' := s.brk) rfl rfl rfl
 refine (break_rawB w b (hb.c 3 rfl) (hb.free 3)).mono ?_
 rintro e w' ⟨rfl, rfl⟩
 exact ⟨rfl, R, hp.1, hp.2, fun _ h => .inl h⟩
theorem infoB : (Tryz.prog.info? 43).map (fun i => (i.zero, i.size, i.bytes)) = some (some (.agg #[.string ⟨#[]⟩, .int .i64 0]), 2, 24) := by kernel_rfl
theorem put_cutB {s : LS Bf} (h : s.Ok) (x : Bf) (g : Int) (E : Nat) (hE : E = if g ≤ 0 ∨ g ≠ s.opn then s.back.length + 1 else s.back.length) : ((rowL s).take E).drop (E - s.lim) = (s.put x g).back ∧ (s.put x g).back.length = E - (E - s.lim) ∧ E - (E - s.lim) ≤ s.lim ∧ E ≤ s.back.length + 1 := by
 have hl := h.len
 have h1 : ((rowL s).take E).drop (E - s.lim) = (s.put x g).back := by
  show _ = if g ≤ 0 ∨ g ≠ s.opn then lastN s.lim (s.back ++ [s.now]) else s.back
  split at hE
  ·subst hE
   rw [if_pos ‹_›, rowL_cut]
   unfold lastN
   simp
  ·subst hE
   rw [if_neg ‹_›, show s.back.length - s.lim = 0 by omega, List.drop_zero]
   unfold rowL
   exact List.take_left
 have h2 : E ≤ s.back.length + 1 := by
  rw [hE]
  split <;> omega
 refine ⟨h1, ?_, by omega, h2⟩
 rw [← h1, List.length_drop, List.length_take, rowL_length]
 omega
set_option maxHeartbeats 4000000 in
theorem do_callsB (w : World) (R : Nat → Prop) (b : Nat) (s : LS Bf) (h : LogB w R b s) (x : Bf) (gr : Int) :
  Calls Tryz.prog 99 #[.pointer (some ⟨b, 0, none⟩), bufV x, .int .i64 gr] w fun e w' => e = .returned (.bool (decide (x ≠ s.now))) ∧ ToBB w R w' b (s.does x gr) := by
 obtain ⟨W1, hW1⟩ : ∃ W1, w.alloc (.cells #[.string (bs x.1), .int .i64 (x.2 : Int)] 43) = W1 := ⟨_, rfl⟩
 have hB1 : Below w.heap.size w W1 := by rw [← hW1]; exact (Below.refl _ w).alloc (Nat.le_refl _) _
 have x0 : Bx W1 w.heap.size 43 (.string (bs x.1)) (.int .i64 (x.2 : Int)) := by rw [← hW1]; exact Bx.new w _ _ _
 have h1 := objB.below h hB1
 have d0 := x0.c0
 have d1 := x0.c1
 have Hn := hid (now_callsB W1.drew R b s (objB.below h1 (Below.refl _ W1).drew))
 have HX := hid x0
 have HB1 := hid hB1
 have HR := hid h
 have H1 := hid h1
 by_cases hx : x = s.now
 ·rw [show decide (x ≠ s.now) = false from decide_eq_false (fun h => h hx), show s.does x gr = s by unfold LS.does; rw [if_pos hx]]
  have HY : Hid (decide (x = s.now) = true) := hid (decide_eq_true hx)
  clear h h1 x0 hB1 hx
  generalize s.now = y at *
  go_enter Tryz.func99, Tryz.ntmps99
  go_wp2_with fail
  refine wp_region_held_drew (S := (fun w' => w'.cell? ⟨w.heap.size, 0, none⟩ = some (.string (bs x.1)) ∧ w'.cell? ⟨w.heap.size, 1, none⟩ = some (.int .i64 (x.2 : Int)))) (by kernel_rfl) ⟨d0, d1⟩ (fun hHeld => ?_)
  refine tkH 0 ?_
  refine tkH 1 ?_
  refine rdH 2 fun K hK => ?_
  go_simp
  refine Hn.out.mono ?_
  rintro e w3 ⟨rfl, hb3⟩
  have hb3' : Below W1.heap.size W1 w3 := ⟨hb3.os, hb3.tape, hb3.output, hb3.size, hb3.block⟩
  have x3 := HX.out.below hb3'
  have q0 := x3.c0
  have q1 := x3.c1
  refine hK.out _ _ ⟨q0, q1⟩ (fun hHeld => ?_)
  clear hK K
  clear hHeld
  refine rdH 3 fun K hK => ?_
  go_simp
  refine (same_callsB x y w3).mono ?_
  rintro e w4 ⟨rfl, hb4⟩
  have hb4' : Below W1.heap.size W1 w4 := hb3'.trans (hb4.mono hb3'.size)
  have x4 := x3.below hb4
  have r0 := x4.c0
  have r1 := x4.c1
  rw [HY.out] at *
  refine hK.out _ _ ⟨r0, r1⟩ (fun hHeld => ?_)
  clear hK K
  clear hHeld hb3 hb3' hb4 x3 q0 q1
  refine wpAnyH_done (by kernel_rfl) ?_ _
  have HT : Hid (ToBB w R w4 b s) := hid (ToB.of_below objB HR.out (HB1.out.trans (hb4'.mono HB1.out.size)))
  clear hb4' x4 r0 r1 Hn
  go_wp2
  go_ret
  exact ⟨rfl, HT.out⟩
 ·rw [show decide (x ≠ s.now) = true from decide_eq_true hx, show s.does x gr = s.put x gr by unfold LS.does; rw [if_neg hx]]
  obtain ⟨i0, hi, hz0, hz1, hz2⟩ := info_parts infoB
  obtain ⟨E, hE⟩ : ∃ E : Nat, E = if gr ≤ 0 ∨ gr ≠ s.opn then s.back.length + 1 else s.back.length := ⟨_, rfl⟩
  obtain ⟨hcut, hlen, hsmall, hEn⟩ := put_cutB h.ok x gr E hE
  obtain ⟨F, hF⟩ : ∃ F, E - s.lim = F := ⟨_, rfl⟩
  rw [hF] at hcut hlen hsmall
  have hle := h.ok.le
  have hln := h.ok.len
  have hok := h.ok.put x gr
  have HY : Hid (decide (x = s.now) = false) := hid (decide_eq_false hx)
  have HC : Hid (((rowL s).take E).drop F = (s.put x gr).back ∧ (s.put x gr).back.length = E - F ∧ (s.put x gr).Ok) := hid ⟨hcut, hlen, hok⟩
  clear h h1 x0 hB1 hx hcut hlen hok
  obtain ⟨y, hy⟩ : ∃ y, s.now = y := ⟨_, rfl⟩
  rw [hy] at Hn HY
  clear hy
  go_enter Tryz.func99, Tryz.ntmps99
  go_wp2_with fail
  refine wp_region_held_drew (S := (fun w' => w'.cell? ⟨w.heap.size, 0, none⟩ = some (.string (bs x.1)) ∧ w'.cell? ⟨w.heap.size, 1, none⟩ = some (.int .i64 (x.2 : Int)))) (by kernel_rfl) ⟨d0, d1⟩ (fun hHeld => ?_)
  refine tkH 0 ?_
  refine tkH 1 ?_
  refine rdH 2 fun K hK => ?_
  go_simp
  refine Hn.out.mono ?_
  rintro e w3 ⟨rfl, hb3⟩
  have hb3' : Below W1.heap.size W1 w3 := ⟨hb3.os, hb3.tape, hb3.output, hb3.size, hb3.block⟩
  have x3 := HX.out.below hb3'
  have q0 := x3.c0
  have q1 := x3.c1
  refine hK.out _ _ ⟨q0, q1⟩ (fun hHeld => ?_)
  clear hK K
  clear hHeld
  refine rdH 3 fun K hK => ?_
  go_simp
  refine (same_callsB x y w3).mono ?_
  rintro e w4 ⟨rfl, hb4⟩
  have hb4' : Below W1.heap.size W1 w4 := hb3'.trans (hb4.mono hb3'.size)
  have x4 := x3.below hb4
  have r0 := x4.c0
  have r1 := x4.c1
  rw [HY.out] at *
  refine hK.out _ _ ⟨r0, r1⟩ (fun hHeld => ?_)
  clear hK K
  clear hHeld hb3 hb3' hb4 x3 q0 q1
  refine wpAnyH_done (by kernel_rfl) ?_ _
  have hcut := HC.out.1
  have hlen := HC.out.2.1
  have hok := HC.out.2.2
  have h4w := objB.below H1.out hb4'
  obtain ⟨g, o, c, hb, hrow, hgb, hg, h3, h4⟩ := h4w.open_
  obtain ⟨o', hif, ho'⟩ : ∃ o', (if E = F then some (⟨g, o, none⟩ : Addr) else some ⟨g, o + F * 2, none⟩) = some ⟨g, o', none⟩ ∧ (E ≠ F → o' = o + F * 2) := by
   by_cases he : E = F
   ·exact ⟨o, if_pos he, fun hn => absurd he hn⟩
   ·exact ⟨o + F * 2, if_neg he, fun _ => rfl⟩
  obtain ⟨W5, hW5⟩ : ∃ W5, w4.drew = W5 := ⟨_, rfl⟩
  have h45 : Below w4.heap.size w4 W5 := by rw [← hW5]; exact (Below.refl _ w4).drew
  have hs5 : W5.heap.size = w4.heap.size := by rw [← hW5]; rfl
  have hrd : RowT bufC W5 R (some ⟨g, o', none⟩) (s.put x gr).back := by
   by_cases he : E = F
   ·exact fun hn => by omega
   ·rw [← hcut, ho' he]
    exact ((hrow.take bufC_length E).drop bufC_length F).below h45
  clear ho'
  have hP5 : Below W5.heap.size W5 (W5.alloc (.cells #[.string (bs x.1), .int .i64 (x.2 : Int)] 43)) := (Below.refl _ W5).alloc (Nat.le_refl _) _
  obtain ⟨c', w6, hrun, hown, hb6, hs6⟩ := run_append_fullT (P := Tryz.prog) bufC_length (W5.alloc (.cells #[.string (bs x.1), .int .i64 (x.2 : Int)] 43)) 110 110 43 i0 (.agg #[.string ⟨#[]⟩, .int .i64 0]) 24 Tryz.underlying110 hi hz0 hz1 hz2 rfl (by decide) g o' (E - F) (s.put x gr).back (hrd.below hP5) (some ⟨W5.heap.size, 0, none⟩) 1 [x] (by simp) (R2 := fun _ => True) (fun _ => ⟨W5.heap.size, 0, rfl, trivial, by simp, fun j v hj => by
   have hx5 := Bx.new W5 43 (.string (bs x.1)) (.int .i64 (x.2 : Int))
   match j, hj with
   | 0, hj => simp [bufC] at hj; subst hj; simp
   | 1, hj => simp [bufC] at hj; subst hj; simp
   | j + 2, hj => simp [bufC] at hj⟩) (by rw [hlen]; simp) (by rw [hlen]; simp; omega)
  rw [hlen, World.size_alloc, show [x].length = 1 from rfl] at hrun hown
  have hb6' : Below W5.heap.size W5 w6 := hP5.trans (hb6.mono hP5.size)
  have hbx5 := hb.below h45
  have hbxP := hbx5.alloc (.cells #[.string (bs x.1), .int .i64 (x.2 : Int)] 43)
  have hbx6 := hbx5.below hb6'
  have y5 := x4.below h45
  have yP := y5.alloc (.cells #[.string (bs x.1), .int .i64 (x.2 : Int)] 43)
  have y6 := y5.below hb6'
  have c0 := hb.c 0 rfl
  have c1 := hb.c 1 rfl
  have c2 := hb.c 2 rfl
  have c3 := hb.c 3 rfl
  have s1 := hbx5.c 1 rfl
  have s2 := y5.c0
  have s3 := y5.c1
  have p1 := hbxP.c 1 rfl
  have p2 := yP.c0
  have p3 := yP.c1
  have z1 := hbx6.c 1 rfl
  have z2 := hbx6.c 2 rfl
  have z3 := hbx6.c 3 rfl
  have z4 := y6.c0
  have z5 := y6.c1
  have f1 := hbx6.free 1
  have f2 := hbx6.free 2
  have f3 := hbx6.free 3
  obtain ⟨Wf, hWf⟩ : ∃ Wf, ((w6.setCell ⟨b, 1, none⟩ (.slice (some ⟨W5.heap.size + 1, 0, none⟩) (E - F + 1) c')).setCell ⟨b, 2, none⟩ (.int .i64 ((E - F : Nat) : Int))).setCell ⟨b, 3, none⟩ (.int .i64 (s.put x gr).opn) = Wf := ⟨_, rfl⟩
  have hfin : ToBB w R Wf b (s.put x gr) := by
   have hrl : rowL (s.put x gr) = (s.put x gr).back ++ [x] := rfl
   have hll : (rowL (s.put x gr)).length = E - F + 1 := by rw [hrl, List.length_append, hlen]; rfl
   have hb14 := HB1.out.trans (hb4'.mono HB1.out.size)
   have hb15 := hb14.trans (h45.mono hb14.size)
   have hb16 := hb15.trans (hb6'.mono hb15.size)
   refine logT_built (k := 2) (N := W5.heap.size + 1) (ty := 43) (A := some ⟨W5.heap.size + 1, 0, none⟩) (c := c') HR.out hok hb16 (w2 := w6) (((Only.refl (fun k => k = b) w6).set (p := ⟨b, 1, none⟩) (.inl rfl) _).set (p := ⟨b, 2, none⟩) (.inl rfl) _ |>.set (p := ⟨b, 3, none⟩) (.inl rfl) _ |> fun ho => by rw [hWf] at ho; exact ho) (by have := hb15.size; omega) ?_ ?_
   ·rw [← hWf, hll, hlen]
    exact ((hbx6.set 1 _).set 2 _).set 3 _
   ·rw [hll, hrl]
    simpa using hown
  have HF := hid hfin
  have Hrun := hid hrun
  have HWf := hid hWf
  have HW5 := hid hW5
  have hEFm : F ≤ E := by omega
  have hopn : max gr 0 = (s.put x gr).opn := by show max gr 0 = (if 0 < gr then gr else 0); split <;> omega
  have hwE : IntKind.i64.wrap ((s.back.length : Int) + 1) = ((s.back.length + 1 : Nat) : Int) := by rw [IntWalk.i64_in _ (by omega)]; omega
  have hwF : IntKind.i64.wrap ((E : Int) - (s.lim : Int)) = (E : Int) - (s.lim : Int) := IntWalk.i64_in _ (by omega)
  have hmF : max ((E : Int) - (s.lim : Int)) 0 = (F : Int) := by omega
  have hwA : IntKind.i64.wrap ((E : Int) - (F : Int)) = ((E - F : Nat) : Int) := by rw [IntWalk.i64_in _ (by omega)]; omega
  have hEm : E ≤ c := by omega
  have hFE : (F : Int) ≤ (E : Int) := by omega
  have hEc : (E : Int) ≤ (c : Int) := by omega
  rw [← hopn] at HWf
  clear hfin hrun hWf hown hb6 hb6' hbx5 hbxP hbx6 y5 yP y6 x4 hb hs6 hP5 Hn hok hlen hcut HR HC H1 HB1 hi hz0 hz1 hz2 h4w hrow hrd h45 hs5 hb4' d0 d1 HX hW1 hW5 r0 r1
  by_cases hgr : 0 < gr
  ·have hgd : decide (0 < gr) = true := decide_eq_true hgr
   by_cases hgo : gr = s.opn
   ·have hge : (gr == s.opn) = true := beq_iff_eq.2 hgo
    rw [if_neg (by omega)] at hE
    have hE2 : (s.back.length : Int) = (E : Int) := by omega
    rw [hE2] at c2 z2 hwE
    clear hgo hE2
    clear hE hln hle hsmall hEn hF h3 h4 hopn
    generalize s.back.length + 1 + s.forth.length = m at *
    generalize s.opn = op at *
    generalize s.lim = lm at *
    go_wp2_with fail
    refine wp_region_last (S := (fun w' => w'.cell? ⟨b, 1, none⟩ = some (.slice (some ⟨g, o, none⟩) m c) ∧ w'.cell? ⟨w.heap.size, 0, none⟩ = some (.string (bs x.1)) ∧ w'.cell? ⟨w.heap.size, 1, none⟩ = some (.int .i64 (x.2 : Int)))) 14 (by kernel_rfl) (by rw [HW5.out]; exact ⟨s1, s2, s3⟩) (fun hHeld => ?_)
    rw [HW5.out] at hHeld ⊢
    refine tkL 0 ?_
    refine tkL 1 ?_
    refine tkL 2 ?_
    refine tkL 3 ?_
    refine tkL 4 ?_
    refine tkL 5 ?_
    refine tkL 6 ?_
    refine tkL 7 ?_
    refine tkL 8 ?_
    refine tkL 9 ?_
    refine rdL 10 fun K hK => ?_
    go_simp
    refine hK.out _ _ ⟨p1, p2, p3⟩ (fun hHeld => ?_)
    clear hK K
    refine lastAny_ready (rs := [11]) (by kernel_rfl) (by simp) ?_
    refine AllReadyL.cons (o := ⟨some 50, _, _, _, _, _⟩) rfl (fun K hK => ?_) AllReadyL.nil
    refine step_append_g (by kernel_rfl) (.tmp 47) (.tmp 49) 110 rfl _ _ rfl rfl Hrun.out ?_
    refine hK.out _ _ ⟨z1, z4, z5⟩ (fun hHeld => ?_)
    clear hK K
    refine rdL 12 fun K hK => ?_
    go_simp
    refine hK.out _ _ ⟨z1, z4, z5⟩ (fun hHeld => ?_)
    clear hK K
    refine tkL 13 ?_
    refine enL fun K hK => ?_
    go_simp
    refine hK.out _ _ ?_
    clear hK K
    clear s1 s2 s3 p1 p2 p3 c0 c1 c2 c3 hHeld
    go_wp2_with fail
    go_ret
    exact ⟨rfl, by rw [HWf.out]; exact HF.out⟩
   ·have hge : (gr == s.opn) = false := beq_eq_false_iff_ne.2 hgo
    rw [if_pos (by omega)] at hE
    rw [← hE] at hwE
    clear hgo
    clear hE hln hle hsmall hEn hF h3 h4 hopn
    generalize s.back.length + 1 + s.forth.length = m at *
    generalize (s.back.length : Int) = nb at *
    generalize s.opn = op at *
    generalize s.lim = lm at *
    go_wp2_with fail
    refine wp_region_last (S := (fun w' => w'.cell? ⟨b, 1, none⟩ = some (.slice (some ⟨g, o, none⟩) m c) ∧ w'.cell? ⟨w.heap.size, 0, none⟩ = some (.string (bs x.1)) ∧ w'.cell? ⟨w.heap.size, 1, none⟩ = some (.int .i64 (x.2 : Int)))) 14 (by kernel_rfl) (by rw [HW5.out]; exact ⟨s1, s2, s3⟩) (fun hHeld => ?_)
    rw [HW5.out] at hHeld ⊢
    refine tkL 0 ?_
    refine tkL 1 ?_
    refine tkL 2 ?_
    refine tkL 3 ?_
    refine tkL 4 ?_
    refine tkL 5 ?_
    refine tkL 6 ?_
    refine tkL 7 ?_
    refine tkL 8 ?_
    refine tkL 9 ?_
    refine rdL 10 fun K hK => ?_
    go_simp
    refine hK.out _ _ ⟨p1, p2, p3⟩ (fun hHeld => ?_)
    clear hK K
    refine lastAny_ready (rs := [11]) (by kernel_rfl) (by simp) ?_
    refine AllReadyL.cons (o := ⟨some 50, _, _, _, _, _⟩) rfl (fun K hK => ?_) AllReadyL.nil
    refine step_append_g (by kernel_rfl) (.tmp 47) (.tmp 49) 110 rfl _ _ rfl rfl Hrun.out ?_
    refine hK.out _ _ ⟨z1, z4, z5⟩ (fun hHeld => ?_)
    clear hK K
    refine rdL 12 fun K hK => ?_
    go_simp
    refine hK.out _ _ ⟨z1, z4, z5⟩ (fun hHeld => ?_)
    clear hK K
    refine tkL 13 ?_
    refine enL fun K hK => ?_
    go_simp
    refine hK.out _ _ ?_
    clear hK K
    clear s1 s2 s3 p1 p2 p3 c0 c1 c2 c3 hHeld
    go_wp2_with fail
    go_ret
    exact ⟨rfl, by rw [HWf.out]; exact HF.out⟩
  ·rw [if_pos (by omega)] at hE
   have hgd : decide (0 < gr) = false := decide_eq_false hgr
   rw [← hE] at hwE
   clear hE hln hle hsmall hEn hF h3 h4 hopn
   generalize s.back.length + 1 + s.forth.length = m at *
   generalize (s.back.length : Int) = nb at *
   generalize s.opn = op at *
   generalize s.lim = lm at *
   go_wp2_with fail
   refine wp_region_last (S := (fun w' => w'.cell? ⟨b, 1, none⟩ = some (.slice (some ⟨g, o, none⟩) m c) ∧ w'.cell? ⟨w.heap.size, 0, none⟩ = some (.string (bs x.1)) ∧ w'.cell? ⟨w.heap.size, 1, none⟩ = some (.int .i64 (x.2 : Int)))) 14 (by kernel_rfl) (by rw [HW5.out]; exact ⟨s1, s2, s3⟩) (fun hHeld => ?_)
   rw [HW5.out] at hHeld ⊢
   refine tkL 0 ?_
   refine tkL 1 ?_
   refine tkL 2 ?_
   refine tkL 3 ?_
   refine tkL 4 ?_
   refine tkL 5 ?_
   refine tkL 6 ?_
   refine tkL 7 ?_
   refine tkL 8 ?_
   refine tkL 9 ?_
   refine rdL 10 fun K hK => ?_
   go_simp
   refine hK.out _ _ ⟨p1, p2, p3⟩ (fun hHeld => ?_)
   clear hK K
   refine lastAny_ready (rs := [11]) (by kernel_rfl) (by simp) ?_
   refine AllReadyL.cons (o := ⟨some 50, _, _, _, _, _⟩) rfl (fun K hK => ?_) AllReadyL.nil
   refine step_append_g (by kernel_rfl) (.tmp 47) (.tmp 49) 110 rfl _ _ rfl rfl Hrun.out ?_
   refine hK.out _ _ ⟨z1, z4, z5⟩ (fun hHeld => ?_)
   clear hK K
   refine rdL 12 fun K hK => ?_
   go_simp
   refine hK.out _ _ ⟨z1, z4, z5⟩ (fun hHeld => ?_)
   clear hK K
   refine tkL 13 ?_
   refine enL fun K hK => ?_
   go_simp
   refine hK.out _ _ ?_
   clear hK K
   clear s1 s2 s3 p1 p2 p3 c0 c1 c2 c3 hHeld
   go_wp2_with fail
   go_ret
   exact ⟨rfl, by rw [HWf.out]; exact HF.out⟩
end
section
open Go Go.RowKit
open Go.Lib (hid)
set_option maxRecDepth 100000
set_option maxHeartbeats 2000000 in
theorem new_callsB (x : Bf) (n : Int) (w : World) :
  Calls Tryz.prog 55 #[bufV x, .int .i64 n] w fun e w' => ∃ b, e = .returned (.pointer (some ⟨b, 0, none⟩)) ∧ InL LogB w w' b (LS.new x n) := by
 have hl : min (max n 1) 256 = (limL n : Int) := by unfold limL; omega
 obtain ⟨W1, hW1⟩ : ∃ W1, w.alloc (.cells #[.string (bs x.1), .int .i64 (x.2 : Int)] 43) = W1 := ⟨_, rfl⟩
 have hB1 : Below w.heap.size w W1 := by rw [← hW1]; exact (Below.refl _ w).alloc (Nat.le_refl _) _
 have x0 : Bx W1 w.heap.size 43 (.string (bs x.1)) (.int .i64 (x.2 : Int)) := by rw [← hW1]; exact Bx.new w _ _ _
 obtain ⟨W, hW⟩ : ∃ W, (W1.alloc (.cells #[.string (bs x.1), .int .i64 (x.2 : Int)] 43)).alloc (.cells #[.int .i64 (limL n : Int), .slice (some ⟨W1.heap.size, 0, none⟩) 1 1, .int .i64 0, .int .i64 0] 112) = W := ⟨_, rfl⟩
 have hin : InL LogB w W (W1.heap.size + 1) (LS.new x n) := by
  have hB : Below W1.heap.size W1 W := by rw [← hW]; exact ((Below.refl _ W1).alloc (Nat.le_refl _) _).alloc (by simp) _
  have hz : W.heap.size = W1.heap.size + 2 := by rw [← hW]; simp
  have hx : Bx W W1.heap.size 43 (.string (bs x.1)) (.int .i64 (x.2 : Int)) := by rw [← hW]; exact (Bx.new W1 _ _ _).alloc _
  have hbx : BxA W (W1.heap.size + 1) 112 [.int .i64 (limL n : Int), .slice (some ⟨W1.heap.size, 0, none⟩) 1 1, .int .i64 0, .int .i64 0] := by
   have := BxA.new (W1.alloc (.cells #[.string (bs x.1), .int .i64 (x.2 : Int)] 43)) 112 [.int .i64 (limL n : Int), .slice (some ⟨W1.heap.size, 0, none⟩) 1 1, .int .i64 0, .int .i64 0]
   rw [World.size_alloc] at this
   rw [← hW]; exact this
  have h1 := hB1.size
  refine ⟨fun k => k = W1.heap.size ∨ k = W1.heap.size + 1, ⟨LS.Ok.new x n, .inr rfl, fun k hk => by rcases hk with h | h <;> omega, some ⟨W1.heap.size, 0, none⟩, 1, hbx, fun _ => ⟨W1.heap.size, 0, rfl, ⟨.inl rfl, by omega⟩, by omega, fun j v hj => ?_⟩, Nat.le_refl _, by unfold maxLen; omega⟩, fun k hk => by rcases hk with h | h <;> omega, hB1.trans (hB.mono hB1.size)⟩
  match j, hj with
  | 0, hj => simp [rowL, LS.new, bufC] at hj; subst hj; simpa using hx.c0
  | 1, hj => simp [rowL, LS.new, bufC] at hj; subst hj; simpa using hx.c1
  | j + 2, hj => simp [rowL, LS.new, bufC] at hj
 have d0 := x0.c0
 have d1 := x0.c1
 have HIN := hid hin
 clear hin x0 hB1
 go_enter Tryz.func55, Tryz.ntmps55
 go_wp2
 go_ret
 exact ⟨_, rfl, HIN.out⟩
set_option maxHeartbeats 2000000 in
theorem copy_callsBB (w : World) (R : Nat → Prop) (b : Nat) (s : LS Bf) (h : LogB w R b s) :
  Calls Tryz.prog 50 #[.pointer (some ⟨b, 0, none⟩)] w fun e w' => ∃ b', e = .returned (.pointer (some ⟨b', 0, none⟩)) ∧ CopL LogB w R b w' b' s := by
 obtain ⟨g, o, c, hb, hrow, hgb, hg, h3, h4⟩ := h.open_
 have c0 := hb.c 0 rfl
 have c1 := hb.c 1 rfl
 have c2 := hb.c 2 rfl
 have c3 := hb.c 3 rfl
 have HR := hid h
 have Hb := hid hb
 clear h hb hrow hg
 go_enter Tryz.func50, Tryz.ntmps50
 go_wp2_with fail
 go_ret
 refine ⟨_, rfl, logT_copied HR.out ((Below.refl _ w).alloc (Nat.le_refl _) _) (Nat.le_refl _) (fun A c' hx => ?_)⟩
 have e := (hx.c 1 rfl).symm.trans c1
 injection e with e
 injection e with e1 e2 e3
 subst e1; subst e3
 rw [e2]
 exact BxA.new w _ [_, _, _, _]
theorem run_append_T (w : World) (base : Nat) (i : TypeInfo) (hi : Tryz.prog.info? 43 = some i) (hz : i.zero = some (.agg #[.string ⟨#[]⟩, .int .i64 0])) (hsize : i.size = 2) (hby : i.bytes = 24)
  (v : Value) (n : Nat) (xs : List Bf) (hown : w.ownsRow base 43 2 v n (xs.flatMap bufC)) (a : Addr) (m c : Nat) (ms : List Bf) (hm : m = ms.length) {R : Nat → Prop} (hR : RowT bufC w R (some a) ms) (hb : n + m ≤ 1099511627776) (hbase : base ≤ w.heap.size) :
  ∃ v' w', (Builtin.append_ #[110, 110] 110 #[v, .slice (some a) m c]).run Tryz.prog w = .ok v' w' ∧ w'.ownsRow base 43 2 v' (n + m) ((xs ++ ms).flatMap bufC) ∧ w.grownBy w' v.ownBlock := by
 subst hm
 obtain ⟨v', w', hr, h2, h3, _, _⟩ := run_append_own_at (P := Tryz.prog) (w := w) base 110 110 43 i _ 2 24 Tryz.underlying110 hi hz hsize hby rfl (by decide) v n (xs.flatMap bufC) hown a ms.length c (ms.flatMap bufC) (flat_length bufC_length ms) (fun j u hj => by
   have hjl := (List.getElem?_eq_some_iff.1 hj).1
   rw [flat_length bufC_length] at hjl
   obtain ⟨g, o, e, _, _, hc⟩ := hR (by omega)
   injection e with e
   subst e
   rw [Addr.add_lit]
   exact hc j u hj) (fun u hu => by
   obtain ⟨x, _, hx⟩ := List.mem_flatMap.1 hu
   simp [bufC] at hx
   rcases hx with rfl | rfl <;> rfl) (by unfold maxLen; omega) (by omega) hbase
 rw [List.flatMap_append]
 exact ⟨v', w', hr, h2, h3⟩
theorem move_runsB (W : World) {R : Nat → Prop} (g o : Nat) (s : LS Bf) (hok : s.Ok) (hrow : RowT bufC W R (some ⟨g, o, none⟩) (rowL s)) (x : Bf) (ob cc : Nat) (hob : s.forth ≠ [] → ob = o + (s.back.length + 1) * 2) :
  ∃ c1 w4 A' c' w5, (Builtin.append_ #[110, 110] 110 #[.slice (some ⟨g, o, none⟩) s.back.length s.back.length, .slice (some ⟨W.heap.size, 0, none⟩) 1 1]).run Tryz.prog (W.alloc (.cells #[.string (bs x.1), .int .i64 (x.2 : Int)] 43)) = .ok (.slice (some ⟨W.heap.size + 1, 0, none⟩) (s.back.length + 1) c1) w4 ∧ Below W.heap.size W w4 ∧
   (Builtin.append_ #[110, 110] 110 #[.slice (some ⟨W.heap.size + 1, 0, none⟩) (s.back.length + 1) c1, .slice (some ⟨g, ob, none⟩) s.forth.length cc]).run Tryz.prog w4 = .ok (.slice A' (s.back.length + 1 + s.forth.length) c') w5 ∧ Below W.heap.size W w5 ∧
   w5.ownsRow (W.heap.size + 1) 43 2 (.slice A' (rowL (s.move x)).length c') (rowL (s.move x)).length ((rowL (s.move x)).flatMap bufC) := by
 obtain ⟨i0, hi, hz0, hz1, hz2⟩ := info_parts infoB
 have hln := hok.len
 have hle := hok.le
 have hB1 : Below W.heap.size W (W.alloc (.cells #[.string (bs x.1), .int .i64 (x.2 : Int)] 43)) := (Below.refl _ W).alloc (Nat.le_refl _) _
 have hback : RowT bufC W R (some ⟨g, o, none⟩) s.back := by
  have := hrow.take bufC_length s.back.length
  rwa [show (rowL s).take s.back.length = s.back from List.take_left] at this
 have hforth : RowT bufC W R (some ⟨g, ob, none⟩) s.forth.reverse := fun hn => by
  have hf : s.forth ≠ [] := fun e => by rw [e] at hn; exact absurd hn (Nat.lt_irrefl 0)
  have h1 := hrow.drop bufC_length (s.back.length + 1)
  rw [← hob hf, show (rowL s).drop (s.back.length + 1) = s.forth.reverse by unfold rowL; rw [List.drop_append, List.drop_of_length_le (by omega), show s.back.length + 1 - s.back.length = 1 by omega]; rfl] at h1
  exact h1 hn
 obtain ⟨c1, w4, hrun, hown, hb4, hs4⟩ := run_append_fullT (P := Tryz.prog) bufC_length (W.alloc (.cells #[.string (bs x.1), .int .i64 (x.2 : Int)] 43)) 110 110 43 i0 (.agg #[.string ⟨#[]⟩, .int .i64 0]) 24 Tryz.underlying110 hi hz0 hz1 hz2 rfl (by decide) g o s.back.length s.back (hback.below hB1) (some ⟨W.heap.size, 0, none⟩) 1 [x] (by simp) (R2 := fun _ => True) (fun _ => ⟨W.heap.size, 0, rfl, trivial, by simp, fun j v hj => by
   have hx5 := Bx.new W 43 (.string (bs x.1)) (.int .i64 (x.2 : Int))
   match j, hj with
   | 0, hj => simp [bufC] at hj; subst hj; simp
   | 1, hj => simp [bufC] at hj; subst hj; simp
   | j + 2, hj => simp [bufC] at hj⟩) (by simp) (by simp; omega)
 rw [World.size_alloc, show [x].length = 1 from rfl] at hrun hown
 have hb4' : Below W.heap.size W w4 := hB1.trans (hb4.mono hB1.size)
 obtain ⟨v', w5, hr2, ho2, hg2⟩ := run_append_T w4 (W.heap.size + 1) i0 hi hz0 hz1 hz2
  (.slice (some ⟨W.heap.size + 1, 0, none⟩) (s.back.length + 1) c1) (s.back.length + 1) (s.back ++ [x]) hown ⟨g, ob, none⟩ s.forth.length cc s.forth.reverse (by simp) (hforth.below hb4') (by omega) (by rw [hs4, World.size_alloc]; omega)
 obtain ⟨A', c', rfl⟩ := own_form ho2
 have hrl : s.back ++ [x] ++ s.forth.reverse = rowL (s.move x) := by simp [rowL, LS.move]
 have hll : (rowL (s.move x)).length = s.back.length + 1 + s.forth.length := by rw [rowL_length]; rfl
 refine ⟨c1, w4, A', c', w5, hrun, hb4', hr2, hb4'.grown hg2 hb4'.size (fun k e => ?_), ?_⟩
 ·injection e with e
  subst e
  exact Nat.le_succ _
 ·rw [hll, ← hrl]
  exact ho2
set_option maxHeartbeats 4000000 in
theorem move_callsB (w : World) (R : Nat → Prop) (b : Nat) (s : LS Bf) (h : LogB w R b s) (x : Bf) :
  Calls Tryz.prog 127 #[.pointer (some ⟨b, 0, none⟩), bufV x] w fun e w' => e = .returned (.tuple #[]) ∧ ToBB w R w' b (s.move x) := by
 obtain ⟨W1, hW1⟩ : ∃ W1, w.alloc (.cells #[.string (bs x.1), .int .i64 (x.2 : Int)] 43) = W1 := ⟨_, rfl⟩
 have hB1 : Below w.heap.size w W1 := by rw [← hW1]; exact (Below.refl _ w).alloc (Nat.le_refl _) _
 have x0 : Bx W1 w.heap.size 43 (.string (bs x.1)) (.int .i64 (x.2 : Int)) := by rw [← hW1]; exact Bx.new w _ _ _
 have h1 := objB.below h hB1
 obtain ⟨g, o, c, hb, hrow, hgb, hg, h3, h4⟩ := h1.open_
 have hln := h.ok.len
 have hle := h.ok.le
 have c1 := hb.c 1 rfl
 have c2 := hb.c 2 rfl
 have hw1 : IntKind.i64.wrap ((s.back.length : Int) + 1) = ((s.back.length + 1 : Nat) : Int) := by rw [IntWalk.i64_in _ (by omega)]; omega
 have hnm : s.back.length + 1 ≤ s.back.length + 1 + s.forth.length := by omega
 have hnmi : ((s.back.length + 1 : Nat) : Int) ≤ ((s.back.length + 1 + s.forth.length : Nat) : Int) := by omega
 obtain ⟨ob, hif, hob⟩ : ∃ ob, (if c = s.back.length + 1 then some (⟨g, o, none⟩ : Addr) else some ⟨g, o + (s.back.length + 1) * 2, none⟩) = some ⟨g, ob, none⟩ ∧ (s.forth ≠ [] → ob = o + (s.back.length + 1) * 2) := by
  by_cases he : c = s.back.length + 1
  ·refine ⟨o, if_pos he, fun hn => ?_⟩
   have := List.length_pos_iff.2 hn
   omega
  ·exact ⟨o + (s.back.length + 1) * 2, if_neg he, fun _ => rfl⟩
 have hnc : s.back.length ≤ c := by omega
 have hnci : (s.back.length : Int) ≤ (c : Int) := by omega
 have HR := hid h
 have Hb := hid hb
 have HX := hid x0
 have HB1 := hid hB1
 have hruns : ∀ nq, ∃ c1 w4 A' c' w5, _ := fun nq => move_runsB ((W1.drewN nq).drew) g o s h.ok (hrow.below (w' := (W1.drewN nq).drew) ⟨rfl, rfl, rfl, Nat.le_refl _, fun _ _ => rfl⟩) x ob (c - (s.back.length + 1)) hob
 have Hruns := hid hruns
 clear h h1 hb hg hrow hruns hob x0 hB1
 go_enter Tryz.func127, Tryz.ntmps127
 go_wp2_with fail
 go_quiet (fail)
 go_wp2_with fail
 obtain ⟨q1, w4, A', c', w5, hr1, hb4, hr2, hb5, hown⟩ := Hruns.out nq
 obtain ⟨W, hW⟩ : ∃ W, (W1.drewN nq).drew = W := ⟨_, rfl⟩
 rw [hW] at hr1 hb4 hr2 hb5 hown
 have hwW1 : Below W1.heap.size W1 W := by rw [← hW]; exact ⟨rfl, rfl, rfl, Nat.le_refl _, fun _ _ => rfl⟩
 have hwW := HB1.out.trans (hwW1.mono HB1.out.size)
 have hbW := Hb.out.below hwW1
 have hxW := HX.out.below hwW1
 have hbP := hbW.alloc (.cells #[.string (bs x.1), .int .i64 (x.2 : Int)] 43)
 have hxP := hxW.alloc (.cells #[.string (bs x.1), .int .i64 (x.2 : Int)] 43)
 have hbX4 := hbW.below hb4
 have hxX4 := hxW.below hb4
 have hbX5 := hbW.below hb5
 have hxX5 := hxW.below hb5
 have cW1 := hbW.c 1 rfl
 have cW2 := hbW.c 2 rfl
 have yW0 := hxW.c0
 have yW1 := hxW.c1
 have cP1 := hbP.c 1 rfl
 have cP2 := hbP.c 2 rfl
 have yP0 := hxP.c0
 have yP1 := hxP.c1
 have cA1 := hbX4.c 1 rfl
 have cA2 := hbX4.c 2 rfl
 have yA0 := hxX4.c0
 have yA1 := hxX4.c1
 have cB1 := hbX5.c 1 rfl
 have cB2 := hbX5.c 2 rfl
 have yB0 := hxX5.c0
 have yB1 := hxX5.c1
 have fB1 := hbX5.free 1
 have hfin : ToBB w R (w5.setCell ⟨b, 1, none⟩ (.slice A' (s.back.length + 1 + s.forth.length) c')) b (s.move x) := by
  have hll : (rowL (s.move x)).length = s.back.length + 1 + s.forth.length := by rw [rowL_length]; rfl
  refine logT_built (k := 2) HR.out (HR.out.ok.move x) (hwW.trans (hb5.mono hwW.size)) ((Only.refl (fun k => k = b) w5).set (p := ⟨b, 1, none⟩) (.inl rfl) _) (A := A') (c := c') (N := W.heap.size + 1) (ty := 43) (by have := hwW.size; omega) ?_ hown
  rw [hll]
  exact hbX5.set 1 _
 have HF := hid hfin
 have Hr1 := hid hr1
 have Hr2 := hid hr2
 clear hfin hr1 hr2 hown hbW hbP hbX4 hbX5 hxW hxP hxX4 hxX5 hb4 hb5 hwW hwW1 Hruns HR Hb HX HB1 hW1
 refine wp_region_last (S := (fun w' => w'.cell? ⟨b, 1, none⟩ = some (.slice (some ⟨g, o, none⟩) (s.back.length + 1 + s.forth.length) c) ∧ w'.cell? ⟨b, 2, none⟩ = some (.int .i64 (s.back.length : Int)) ∧ w'.cell? ⟨w.heap.size, 0, none⟩ = some (.string (bs x.1)) ∧ w'.cell? ⟨w.heap.size, 1, none⟩ = some (.int .i64 (x.2 : Int)))) 21 (by kernel_rfl) (by rw [hW]; exact ⟨cW1, cW2, yW0, yW1⟩) (fun hHeld => ?_)
 rw [hW] at hHeld ⊢
 clear hW
 refine tkL 0 ?_
 refine tkL 1 ?_
 refine tkL 2 ?_
 refine tkL 3 ?_
 refine tkL 4 ?_
 refine tkL 5 ?_
 refine tkL 6 ?_
 refine tkL 7 ?_
 refine tkL 8 ?_
 refine tkL 9 ?_
 refine tkL 10 ?_
 refine tkL 11 ?_
 refine tkL 12 ?_
 refine tkL 13 ?_
 refine tkL 14 ?_
 refine tkL 17 ?_
 refine rdL 15 fun K hK => ?_
 go_simp
 refine hK.out _ _ ⟨cP1, cP2, yP0, yP1⟩ (fun hHeld => ?_)
 clear hK K
 refine lastAny_ready (rs := [16]) (by kernel_rfl) (by simp) ?_
 refine AllReadyL.cons (o := ⟨some 31, _, _, _, _, _⟩) rfl (fun K hK => ?_) AllReadyL.nil
 refine step_append_g (by kernel_rfl) (.tmp 28) (.tmp 30) 110 rfl _ _ rfl rfl Hr1.out ?_
 refine hK.out _ _ ⟨cA1, cA2, yA0, yA1⟩ (fun hHeld => ?_)
 clear hK K
 refine lastAny_ready (rs := [18]) (by kernel_rfl) (by simp) ?_
 refine AllReadyL.cons (o := ⟨some 33, _, _, _, _, _⟩) rfl (fun K hK => ?_) AllReadyL.nil
 refine step_append_g (by kernel_rfl) (.tmp 31) (.tmp 32) 110 rfl _ _ rfl rfl Hr2.out ?_
 refine hK.out _ _ ⟨cB1, cB2, yB0, yB1⟩ (fun hHeld => ?_)
 clear hK K
 refine rdL 19 fun K hK => ?_
 go_simp
 refine hK.out _ _ ⟨cB1, cB2, yB0, yB1⟩ (fun hHeld => ?_)
 clear hK K
 refine tkL 20 ?_
 refine enL fun K hK => ?_
 go_simp
 refine hK.out _ _ ?_
 clear hK K
 go_end0
 exact ⟨rfl, HF.out⟩
end
end Go.Proofs.YtoaponaljkhlfaaGreatDoor
