/-
  Layer 7 and what it stands on, part 13 (LogM).
-/
import Derived.Test.YtoaponaljkhlfaaGreatDoorPt12
import Derived.WalkKit
import Derived.BigQuiet
import Derived.IntWalk
import Derived.Lib.MinMax
import Derived.Lib.Strings
import Derived.Deep.RegionHeld3
import Derived.Recover
import Derived.Defers
namespace Go.Proofs.YtoaponaljkhlfaaGreatDoor
section
open Go Go.RowKit
set_option maxRecDepth 100000
set_option maxHeartbeats 2000000 in
theorem new_callsB (x : Bf) (n : Int) (w : World) :
    Calls Tryz.prog 55 #[bufV x, .int .i64 n] w fun e w' => ∃ b, e = .returned (.pointer (some ⟨b, 0, none⟩)) ∧ InL LogB w w' b (LS.new x n) := by
  have hl : min (max n 1) 256 = (limL n : Int) := by unfold limL; omega
  obtain ⟨W1, hW1⟩ : ∃ W1, w.alloc (.cells #[.string (bs x.1), .int .i64 (x.2 : Int)] 43) = W1 := ⟨_, rfl⟩
  have hB1 : Below w.heap.size w W1 := by rw [← hW1]; exact (Below.refl _ w).alloc (Nat.le_refl _) _
  have x0 : Bx W1 w.heap.size 43 (.string (bs x.1)) (.int .i64 (x.2 : Int)) := by rw [← hW1]; exact Bx.new w _ _ _
  obtain ⟨W, hW⟩ : ∃ W, (W1.alloc (.cells #[.string (bs x.1), .int .i64 (x.2 : Int)] 43)).alloc (.cells #[.int .i64 (limL n : Int), .slice (some ⟨W1.heap.size, 0, none⟩) 1 1, .int .i64 0, .int .i64 0] 112) = W := ⟨_, rfl⟩
  have hin : InL LogB w W (W1.heap.size + 1) (LS.new x n) := by
    have hB : Below W1.heap.size W1 W := by rw [← hW]; exact ((Below.refl _ W1).alloc (Nat.le_refl _) _).alloc (by simp) _
    have hz : W.heap.size = W1.heap.size + 2 := by rw [← hW]; simp
    have hx : Bx W W1.heap.size 43 (.string (bs x.1)) (.int .i64 (x.2 : Int)) := by rw [← hW]; exact (Bx.new W1 _ _ _).alloc _
    have hbx : BxA W (W1.heap.size + 1) 112 [.int .i64 (limL n : Int), .slice (some ⟨W1.heap.size, 0, none⟩) 1 1, .int .i64 0, .int .i64 0] := by
      have := BxA.new (W1.alloc (.cells #[.string (bs x.1), .int .i64 (x.2 : Int)] 43)) 112 [.int .i64 (limL n : Int), .slice (some ⟨W1.heap.size, 0, none⟩) 1 1, .int .i64 0, .int .i64 0]
      rw [World.size_alloc] at this
      rw [← hW]; exact this
    have h1 := hB1.size
    refine ⟨fun k => k = W1.heap.size ∨ k = W1.heap.size + 1, ⟨LS.Ok.new x n, .inr rfl, fun k hk => by rcases hk with h | h <;> omega, some ⟨W1.heap.size, 0, none⟩, 1, hbx, fun _ => ⟨W1.heap.size, 0, rfl, ⟨.inl rfl, by omega⟩, by omega, fun j v hj => ?_⟩, Nat.le_refl _, by unfold maxLen; omega⟩, fun k hk => by rcases hk with h | h <;> omega, hB1.trans (hB.mono hB1.size)⟩
    match j, hj with
    | 0, hj => simp [rowL, LS.new, bufC] at hj; subst hj; simpa using hx.c0
    | 1, hj => simp [rowL, LS.new, bufC] at hj; subst hj; simpa using hx.c1
    | j + 2, hj => simp [rowL, LS.new, bufC] at hj
  have d0 := x0.c0
  have d1 := x0.c1
  have HIN := Lib.hid hin
  clear hin x0 hB1
  go_enter Tryz.func55, Tryz.ntmps55
  go_wp2
  go_ret
  exact ⟨_, rfl, HIN.out⟩
set_option maxHeartbeats 2000000 in
theorem copy_callsBB (w : World) (R : Nat → Prop) (b : Nat) (s : LS Bf) (h : LogB w R b s) :
    Calls Tryz.prog 50 #[.pointer (some ⟨b, 0, none⟩)] w fun e w' => ∃ b', e = .returned (.pointer (some ⟨b', 0, none⟩)) ∧ CopL LogB w R b w' b' s := by
  obtain ⟨g, o, c, hb, hrow, hgb, hg, h3, h4⟩ := h.open_
  have c0 := hb.c 0 rfl
  have c1 := hb.c 1 rfl
  have c2 := hb.c 2 rfl
  have c3 := hb.c 3 rfl
  have HR := Lib.hid h
  have Hb := Lib.hid hb
  clear h hb hrow hg
  go_enter Tryz.func50, Tryz.ntmps50
  go_wp2_with fail
  go_ret
  refine ⟨_, rfl, logT_copied HR.out ((Below.refl _ w).alloc (Nat.le_refl _) _) (Nat.le_refl _) (fun A c' hx => ?_)⟩
  have e := (hx.c 1 rfl).symm.trans c1
  injection e with e
  injection e with e1 e2 e3
  subst e1; subst e3
  rw [e2]
  exact BxA.new w _ [_, _, _, _]
theorem run_append_T (w : World) (base : Nat) (i : TypeInfo) (hi : Tryz.prog.info? 43 = some i) (hz : i.zero = some (.agg #[.string ⟨#[]⟩, .int .i64 0])) (hsize : i.size = 2) (hby : i.bytes = 24)
    (v : Value) (n : Nat) (xs : List Bf) (hown : w.ownsRow base 43 2 v n (xs.flatMap bufC)) (a : Addr) (m c : Nat) (ms : List Bf) (hm : m = ms.length) {R : Nat → Prop} (hR : RowT bufC w R (some a) ms) (hb : n + m ≤ 1099511627776) (hbase : base ≤ w.heap.size) :
    ∃ v' w', (Builtin.append_ #[110, 110] 110 #[v, .slice (some a) m c]).run Tryz.prog w = .ok v' w' ∧ w'.ownsRow base 43 2 v' (n + m) ((xs ++ ms).flatMap bufC) ∧ w.grownBy w' v.ownBlock := by
  subst hm
  obtain ⟨v', w', hr, h2, h3, _, _⟩ := run_append_own_at (P := Tryz.prog) (w := w) base 110 110 43 i _ 2 24 Tryz.underlying110 hi hz hsize hby rfl (by decide) v n (xs.flatMap bufC) hown a ms.length c (ms.flatMap bufC) (flat_length bufC_length ms) (fun j u hj => by
      have hjl := (List.getElem?_eq_some_iff.1 hj).1
      rw [flat_length bufC_length] at hjl
      obtain ⟨g, o, e, _, _, hc⟩ := hR (by omega)
      injection e with e
      subst e
      rw [Addr.add_lit]
      exact hc j u hj) (fun u hu => by
      obtain ⟨x, _, hx⟩ := List.mem_flatMap.1 hu
      simp [bufC] at hx
      rcases hx with rfl | rfl <;> rfl) (by unfold maxLen; omega) (by omega) hbase
  rw [List.flatMap_append]
  exact ⟨v', w', hr, h2, h3⟩
theorem move_runsB (W : World) {R : Nat → Prop} (g o : Nat) (s : LS Bf) (hok : s.Ok) (hrow : RowT bufC W R (some ⟨g, o, none⟩) (rowL s)) (x : Bf) (ob cc : Nat) (hob : s.forth ≠ [] → ob = o + (s.back.length + 1) * 2) :
    ∃ c1 w4 A' c' w5, (Builtin.append_ #[110, 110] 110 #[.slice (some ⟨g, o, none⟩) s.back.length s.back.length, .slice (some ⟨W.heap.size, 0, none⟩) 1 1]).run Tryz.prog (W.alloc (.cells #[.string (bs x.1), .int .i64 (x.2 : Int)] 43)) = .ok (.slice (some ⟨W.heap.size + 1, 0, none⟩) (s.back.length + 1) c1) w4 ∧ Below W.heap.size W w4 ∧
      (Builtin.append_ #[110, 110] 110 #[.slice (some ⟨W.heap.size + 1, 0, none⟩) (s.back.length + 1) c1, .slice (some ⟨g, ob, none⟩) s.forth.length cc]).run Tryz.prog w4 = .ok (.slice A' (s.back.length + 1 + s.forth.length) c') w5 ∧ Below W.heap.size W w5 ∧
      w5.ownsRow (W.heap.size + 1) 43 2 (.slice A' (rowL (s.move x)).length c') (rowL (s.move x)).length ((rowL (s.move x)).flatMap bufC) := by
  obtain ⟨i0, hi, hz0, hz1, hz2⟩ := info_parts infoB
  have hln := hok.len
  have hle := hok.le
  have hB1 : Below W.heap.size W (W.alloc (.cells #[.string (bs x.1), .int .i64 (x.2 : Int)] 43)) := (Below.refl _ W).alloc (Nat.le_refl _) _
  have hback : RowT bufC W R (some ⟨g, o, none⟩) s.back := by
    have := hrow.take bufC_length s.back.length
    rwa [show (rowL s).take s.back.length = s.back from List.take_left] at this
  have hforth : RowT bufC W R (some ⟨g, ob, none⟩) s.forth.reverse := fun hn => by
    have hf : s.forth ≠ [] := fun e => by rw [e] at hn; exact absurd hn (Nat.lt_irrefl 0)
    have h1 := hrow.drop bufC_length (s.back.length + 1)
    rw [← hob hf, show (rowL s).drop (s.back.length + 1) = s.forth.reverse by unfold rowL; rw [List.drop_append, List.drop_of_length_le (by omega), show s.back.length + 1 - s.back.length = 1 by omega]; rfl] at h1
    exact h1 hn
  obtain ⟨c1, w4, hrun, hown, hb4, hs4⟩ := run_append_fullT (P := Tryz.prog) bufC_length (W.alloc (.cells #[.string (bs x.1), .int .i64 (x.2 : Int)] 43)) 110 110 43 i0 (.agg #[.string ⟨#[]⟩, .int .i64 0]) 24 Tryz.underlying110 hi hz0 hz1 hz2 rfl (by decide) g o s.back.length s.back (hback.below hB1) (some ⟨W.heap.size, 0, none⟩) 1 [x] (by simp) (R2 := fun _ => True) (fun _ => ⟨W.heap.size, 0, rfl, trivial, by simp, fun j v hj => by
      have hx5 := Bx.new W 43 (.string (bs x.1)) (.int .i64 (x.2 : Int))
      match j, hj with
      | 0, hj => simp [bufC] at hj; subst hj; simp
      | 1, hj => simp [bufC] at hj; subst hj; simp
      | j + 2, hj => simp [bufC] at hj⟩) (by simp) (by simp; omega)
  rw [World.size_alloc, show [x].length = 1 from rfl] at hrun hown
  have hb4' : Below W.heap.size W w4 := hB1.trans (hb4.mono hB1.size)
  obtain ⟨v', w5, hr2, ho2, hg2⟩ := run_append_T w4 (W.heap.size + 1) i0 hi hz0 hz1 hz2
    (.slice (some ⟨W.heap.size + 1, 0, none⟩) (s.back.length + 1) c1) (s.back.length + 1) (s.back ++ [x]) hown ⟨g, ob, none⟩ s.forth.length cc s.forth.reverse (by simp) (hforth.below hb4') (by omega) (by rw [hs4, World.size_alloc]; omega)
  obtain ⟨A', c', rfl⟩ := own_form ho2
  have hrl : s.back ++ [x] ++ s.forth.reverse = rowL (s.move x) := by simp [rowL, LS.move]
  have hll : (rowL (s.move x)).length = s.back.length + 1 + s.forth.length := by rw [rowL_length]; rfl
  refine ⟨c1, w4, A', c', w5, hrun, hb4', hr2, hb4'.grown hg2 hb4'.size (fun k e => ?_), ?_⟩
  · injection e with e
    subst e
    exact Nat.le_succ _
  · rw [hll, ← hrl]
    exact ho2
set_option maxHeartbeats 4000000 in
theorem move_callsB (w : World) (R : Nat → Prop) (b : Nat) (s : LS Bf) (h : LogB w R b s) (x : Bf) :
    Calls Tryz.prog 127 #[.pointer (some ⟨b, 0, none⟩), bufV x] w fun e w' => e = .returned (.tuple #[]) ∧ ToBB w R w' b (s.move x) := by
  obtain ⟨W1, hW1⟩ : ∃ W1, w.alloc (.cells #[.string (bs x.1), .int .i64 (x.2 : Int)] 43) = W1 := ⟨_, rfl⟩
  have hB1 : Below w.heap.size w W1 := by rw [← hW1]; exact (Below.refl _ w).alloc (Nat.le_refl _) _
  have x0 : Bx W1 w.heap.size 43 (.string (bs x.1)) (.int .i64 (x.2 : Int)) := by rw [← hW1]; exact Bx.new w _ _ _
  have h1 := objB.below h hB1
  obtain ⟨g, o, c, hb, hrow, hgb, hg, h3, h4⟩ := h1.open_
  have hln := h.ok.len
  have hle := h.ok.le
  have c1 := hb.c 1 rfl
  have c2 := hb.c 2 rfl
  have hw1 : IntKind.i64.wrap ((s.back.length : Int) + 1) = ((s.back.length + 1 : Nat) : Int) := by rw [IntWalk.i64_in _ (by omega)]; omega
  have hnm : s.back.length + 1 ≤ s.back.length + 1 + s.forth.length := by omega
  have hnmi : ((s.back.length + 1 : Nat) : Int) ≤ ((s.back.length + 1 + s.forth.length : Nat) : Int) := by omega
  obtain ⟨ob, hif, hob⟩ : ∃ ob, (if c = s.back.length + 1 then some (⟨g, o, none⟩ : Addr) else some ⟨g, o + (s.back.length + 1) * 2, none⟩) = some ⟨g, ob, none⟩ ∧ (s.forth ≠ [] → ob = o + (s.back.length + 1) * 2) := by
    by_cases he : c = s.back.length + 1
    · refine ⟨o, if_pos he, fun hn => ?_⟩
      have := List.length_pos_iff.2 hn
      omega
    · exact ⟨o + (s.back.length + 1) * 2, if_neg he, fun _ => rfl⟩
  have hnc : s.back.length ≤ c := by omega
  have hnci : (s.back.length : Int) ≤ (c : Int) := by omega
  have HR := Lib.hid h
  have Hb := Lib.hid hb
  have HX := Lib.hid x0
  have HB1 := Lib.hid hB1
  have hruns : ∀ nq, ∃ c1 w4 A' c' w5, _ := fun nq => move_runsB ((W1.drewN nq).drew) g o s h.ok (hrow.below (w' := (W1.drewN nq).drew) ⟨rfl, rfl, rfl, Nat.le_refl _, fun _ _ => rfl⟩) x ob (c - (s.back.length + 1)) hob
  have Hruns := Lib.hid hruns
  clear h h1 hb hg hrow hruns hob x0 hB1
  go_enter Tryz.func127, Tryz.ntmps127
  go_wp2_with fail
  go_quiet (fail)
  go_wp2_with fail
  obtain ⟨q1, w4, A', c', w5, hr1, hb4, hr2, hb5, hown⟩ := Hruns.out nq
  obtain ⟨W, hW⟩ : ∃ W, (W1.drewN nq).drew = W := ⟨_, rfl⟩
  rw [hW] at hr1 hb4 hr2 hb5 hown
  have hwW1 : Below W1.heap.size W1 W := by rw [← hW]; exact ⟨rfl, rfl, rfl, Nat.le_refl _, fun _ _ => rfl⟩
  have hwW := HB1.out.trans (hwW1.mono HB1.out.size)
  have hbW := Hb.out.below hwW1
  have hxW := HX.out.below hwW1
  have hbP := hbW.alloc (.cells #[.string (bs x.1), .int .i64 (x.2 : Int)] 43)
  have hxP := hxW.alloc (.cells #[.string (bs x.1), .int .i64 (x.2 : Int)] 43)
  have hbX4 := hbW.below hb4
  have hxX4 := hxW.below hb4
  have hbX5 := hbW.below hb5
  have hxX5 := hxW.below hb5
  have cW1 := hbW.c 1 rfl
  have cW2 := hbW.c 2 rfl
  have yW0 := hxW.c0
  have yW1 := hxW.c1
  have cP1 := hbP.c 1 rfl
  have cP2 := hbP.c 2 rfl
  have yP0 := hxP.c0
  have yP1 := hxP.c1
  have cA1 := hbX4.c 1 rfl
  have cA2 := hbX4.c 2 rfl
  have yA0 := hxX4.c0
  have yA1 := hxX4.c1
  have cB1 := hbX5.c 1 rfl
  have cB2 := hbX5.c 2 rfl
  have yB0 := hxX5.c0
  have yB1 := hxX5.c1
  have fB1 := hbX5.free 1
  have hfin : ToBB w R (w5.setCell ⟨b, 1, none⟩ (.slice A' (s.back.length + 1 + s.forth.length) c')) b (s.move x) := by
    have hll : (rowL (s.move x)).length = s.back.length + 1 + s.forth.length := by rw [rowL_length]; rfl
    refine logT_built (k := 2) HR.out (HR.out.ok.move x) (hwW.trans (hb5.mono hwW.size)) ((Only.refl (fun k => k = b) w5).set (p := ⟨b, 1, none⟩) (.inl rfl) _) (A := A') (c := c') (N := W.heap.size + 1) (ty := 43) (by have := hwW.size; omega) ?_ hown
    rw [hll]
    exact hbX5.set 1 _
  have HF := Lib.hid hfin
  have Hr1 := Lib.hid hr1
  have Hr2 := Lib.hid hr2
  clear hfin hr1 hr2 hown hbW hbP hbX4 hbX5 hxW hxP hxX4 hxX5 hb4 hb5 hwW hwW1 Hruns HR Hb HX HB1 hW1
  refine wp_region_last (S := (fun w' => w'.cell? ⟨b, 1, none⟩ = some (.slice (some ⟨g, o, none⟩) (s.back.length + 1 + s.forth.length) c) ∧ w'.cell? ⟨b, 2, none⟩ = some (.int .i64 (s.back.length : Int)) ∧ w'.cell? ⟨w.heap.size, 0, none⟩ = some (.string (bs x.1)) ∧ w'.cell? ⟨w.heap.size, 1, none⟩ = some (.int .i64 (x.2 : Int)))) 21 (by kernel_rfl) (by rw [hW]; exact ⟨cW1, cW2, yW0, yW1⟩) (fun hHeld => ?_)
  rw [hW] at hHeld ⊢
  clear hW
  refine lastAny_take (i := 0) (oi := ⟨some 15, _, _, _, _, _⟩) (v := ?_) rfl (by kernel_rfl) (by kernel_rfl) (by kernel_rfl) (by kernel_rfl) (fun _ _ _ h => h) (Or.inl ⟨by kernel_rfl, ?hy0⟩) (by assumption) ?_
  case hy0 => (intro w' hSw; (try dsimp only at hSw); go_simp; try with_reducible rfl)
  simp only [Act.put, List.setIfInBounds_toArray, List.set_cons_zero, List.set_cons_succ]
  refine lastAny_take (i := 1) (oi := ⟨some 16, _, _, _, _, _⟩) (v := ?_) rfl (by kernel_rfl) (by kernel_rfl) (by kernel_rfl) (by kernel_rfl) (fun _ _ _ h => h) (Or.inl ⟨by kernel_rfl, ?hy1⟩) (by assumption) ?_
  case hy1 => (intro w' hSw; (try dsimp only at hSw); go_simp; try with_reducible rfl)
  simp only [Act.put, List.setIfInBounds_toArray, List.set_cons_zero, List.set_cons_succ]
  refine lastAny_take (i := 2) (oi := ⟨some 17, _, _, _, _, _⟩) (v := ?_) rfl (by kernel_rfl) (by kernel_rfl) (by kernel_rfl) (by kernel_rfl) (fun _ _ _ h => h) (Or.inl ⟨by kernel_rfl, ?hy2⟩) (by assumption) ?_
  case hy2 => (intro w' hSw; (try dsimp only at hSw); go_simp; try with_reducible rfl)
  simp only [Act.put, List.setIfInBounds_toArray, List.set_cons_zero, List.set_cons_succ]
  refine lastAny_take (i := 3) (oi := ⟨some 18, _, _, _, _, _⟩) (v := ?_) rfl (by kernel_rfl) (by kernel_rfl) (by kernel_rfl) (by kernel_rfl) (fun _ _ _ h => h) (Or.inl ⟨by kernel_rfl, ?hy3⟩) (by assumption) ?_
  case hy3 => (intro w' hSw; (try dsimp only at hSw); go_simp; try with_reducible rfl)
  simp only [Act.put, List.setIfInBounds_toArray, List.set_cons_zero, List.set_cons_succ]
  refine lastAny_take (i := 4) (oi := ⟨some 19, _, _, _, _, _⟩) (v := ?_) rfl (by kernel_rfl) (by kernel_rfl) (by kernel_rfl) (by kernel_rfl) (fun _ _ _ h => h) (Or.inl ⟨by kernel_rfl, ?hy4⟩) (by assumption) ?_
  case hy4 => (intro w' hSw; (try dsimp only at hSw); go_simp; try with_reducible rfl)
  simp only [Act.put, List.setIfInBounds_toArray, List.set_cons_zero, List.set_cons_succ]
  refine lastAny_take (i := 5) (oi := ⟨some 20, _, _, _, _, _⟩) (v := ?_) rfl (by kernel_rfl) (by kernel_rfl) (by kernel_rfl) (by kernel_rfl) (fun _ _ _ h => h) (Or.inl ⟨by kernel_rfl, ?hy5⟩) (by assumption) ?_
  case hy5 => (intro w' hSw; (try dsimp only at hSw); go_simp; try with_reducible rfl)
  simp only [Act.put, List.setIfInBounds_toArray, List.set_cons_zero, List.set_cons_succ]
  refine lastAny_take (i := 6) (oi := ⟨some 21, _, _, _, _, _⟩) (v := ?_) rfl (by kernel_rfl) (by kernel_rfl) (by kernel_rfl) (by kernel_rfl) (fun _ _ _ h => h) (Or.inl ⟨by kernel_rfl, ?hy6⟩) (by assumption) ?_
  case hy6 => (intro w' hSw; (try dsimp only at hSw); go_simp; try with_reducible rfl)
  simp only [Act.put, List.setIfInBounds_toArray, List.set_cons_zero, List.set_cons_succ]
  refine lastAny_take (i := 7) (oi := ⟨some 22, _, _, _, _, _⟩) (v := ?_) rfl (by kernel_rfl) (by kernel_rfl) (by kernel_rfl) (by kernel_rfl) (fun _ _ _ h => h) (Or.inl ⟨by kernel_rfl, ?hy7⟩) (by assumption) ?_
  case hy7 => (intro w' hSw; (try dsimp only at hSw); go_simp; try with_reducible rfl)
  simp only [Act.put, List.setIfInBounds_toArray, List.set_cons_zero, List.set_cons_succ]
  refine lastAny_take (i := 8) (oi := ⟨some 23, _, _, _, _, _⟩) (v := ?_) rfl (by kernel_rfl) (by kernel_rfl) (by kernel_rfl) (by kernel_rfl) (fun _ _ _ h => h) (Or.inl ⟨by kernel_rfl, ?hy8⟩) (by assumption) ?_
  case hy8 => (intro w' hSw; (try dsimp only at hSw); go_simp; try with_reducible rfl)
  simp only [Act.put, List.setIfInBounds_toArray, List.set_cons_zero, List.set_cons_succ]
  refine lastAny_take (i := 9) (oi := ⟨some 24, _, _, _, _, _⟩) (v := ?_) rfl (by kernel_rfl) (by kernel_rfl) (by kernel_rfl) (by kernel_rfl) (fun _ _ _ h => h) (Or.inl ⟨by kernel_rfl, ?hy9⟩) (by assumption) ?_
  case hy9 => (intro w' hSw; (try dsimp only at hSw); go_simp; try with_reducible rfl)
  simp only [Act.put, List.setIfInBounds_toArray, List.set_cons_zero, List.set_cons_succ]
  refine lastAny_take (i := 10) (oi := ⟨some 25, _, _, _, _, _⟩) (v := ?_) rfl (by kernel_rfl) (by kernel_rfl) (by kernel_rfl) (by kernel_rfl) (fun _ _ _ h => h) (Or.inl ⟨by kernel_rfl, ?hy10⟩) (by assumption) ?_
  case hy10 => (intro w' hSw; (try dsimp only at hSw); go_simp; try with_reducible rfl)
  simp only [Act.put, List.setIfInBounds_toArray, List.set_cons_zero, List.set_cons_succ]
  refine lastAny_take (i := 11) (oi := ⟨some 26, _, _, _, _, _⟩) (v := ?_) rfl (by kernel_rfl) (by kernel_rfl) (by kernel_rfl) (by kernel_rfl) (fun _ _ _ h => h) (Or.inl ⟨by kernel_rfl, ?hy11⟩) (by assumption) ?_
  case hy11 => (intro w' hSw; (try dsimp only at hSw); go_simp; try with_reducible rfl)
  simp only [Act.put, List.setIfInBounds_toArray, List.set_cons_zero, List.set_cons_succ]
  refine lastAny_take (i := 12) (oi := ⟨some 27, _, _, _, _, _⟩) (v := ?_) rfl (by kernel_rfl) (by kernel_rfl) (by kernel_rfl) (by kernel_rfl) (fun _ _ _ h => h) (Or.inl ⟨by kernel_rfl, ?hy12⟩) (by assumption) ?_
  case hy12 => (intro w' hSw; (try dsimp only at hSw); go_simp; try with_reducible rfl)
  simp only [Act.put, List.setIfInBounds_toArray, List.set_cons_zero, List.set_cons_succ]
  refine lastAny_take (i := 13) (oi := ⟨some 28, _, _, _, _, _⟩) (v := ?_) rfl (by kernel_rfl) (by kernel_rfl) (by kernel_rfl) (by kernel_rfl) (fun _ _ _ h => h) (Or.inl ⟨by kernel_rfl, ?hy13⟩) (by assumption) ?_
  case hy13 => (intro w' hSw; (try dsimp only at hSw); go_simp; try with_reducible rfl)
  simp only [Act.put, List.setIfInBounds_toArray, List.set_cons_zero, List.set_cons_succ]
  refine lastAny_take (i := 14) (oi := ⟨some 29, _, _, _, _, _⟩) (v := ?_) rfl (by kernel_rfl) (by kernel_rfl) (by kernel_rfl) (by kernel_rfl) (fun _ _ _ h => h) (Or.inl ⟨by kernel_rfl, ?hy14⟩) (by assumption) ?_
  case hy14 => (intro w' hSw; (try dsimp only at hSw); go_simp; try with_reducible rfl)
  simp only [Act.put, List.setIfInBounds_toArray, List.set_cons_zero, List.set_cons_succ]
  refine lastAny_take (i := 17) (oi := ⟨some 32, _, _, _, _, _⟩) (v := ?_) rfl (by kernel_rfl) (by kernel_rfl) (by kernel_rfl) (by kernel_rfl) (fun _ _ _ h => h) (Or.inl ⟨by kernel_rfl, ?hy17⟩) (by assumption) ?_
  case hy17 => (intro w' hSw; (try dsimp only at hSw); go_simp; try with_reducible rfl)
  simp only [Act.put, List.setIfInBounds_toArray, List.set_cons_zero, List.set_cons_succ]
  refine lastAny_ready (rs := [15]) (by kernel_rfl) (by simp) ?_
  refine AllReadyL.cons (o := ⟨some 30, _, _, _, _, _⟩) rfl (fun K hK => ?_) AllReadyL.nil
  (rw [if_pos (by kernel_rfl)])
  go_simp
  refine hK.out _ _ ⟨cP1, cP2, yP0, yP1⟩ (fun hHeld => ?_)
  clear hK K
  refine lastAny_ready (rs := [16]) (by kernel_rfl) (by simp) ?_
  refine AllReadyL.cons (o := ⟨some 31, _, _, _, _, _⟩) rfl (fun K hK => ?_) AllReadyL.nil
  refine step_append_g (by kernel_rfl) (.tmp 28) (.tmp 30) 110 rfl _ _ rfl rfl Hr1.out ?_
  refine hK.out _ _ ⟨cA1, cA2, yA0, yA1⟩ (fun hHeld => ?_)
  clear hK K
  refine lastAny_ready (rs := [18]) (by kernel_rfl) (by simp) ?_
  refine AllReadyL.cons (o := ⟨some 33, _, _, _, _, _⟩) rfl (fun K hK => ?_) AllReadyL.nil
  refine step_append_g (by kernel_rfl) (.tmp 31) (.tmp 32) 110 rfl _ _ rfl rfl Hr2.out ?_
  refine hK.out _ _ ⟨cB1, cB2, yB0, yB1⟩ (fun hHeld => ?_)
  clear hK K
  refine lastAny_ready (rs := [19]) (by kernel_rfl) (by simp) ?_
  refine AllReadyL.cons (o := ⟨some 34, _, _, _, _, _⟩) rfl (fun K hK => ?_) AllReadyL.nil
  (rw [if_pos (by kernel_rfl)])
  go_simp
  refine hK.out _ _ ⟨cB1, cB2, yB0, yB1⟩ (fun hHeld => ?_)
  clear hK K
  refine lastAny_take (i := 20) (oi := ⟨some 35, _, _, _, _, _⟩) (v := ?_) rfl (by kernel_rfl) (by kernel_rfl) (by kernel_rfl) (by kernel_rfl) (fun _ _ _ h => h) (Or.inl ⟨by kernel_rfl, ?hy20⟩) (by assumption) ?_
  case hy20 => (intro w' hSw; (try dsimp only at hSw); go_simp; try with_reducible rfl)
  simp only [Act.put, List.setIfInBounds_toArray, List.set_cons_zero, List.set_cons_succ]
  refine lastAny_end (by kernel_rfl) rfl (by kernel_rfl) (by kernel_rfl) (fun K hK => ?_)
  go_simp
  refine hK.out _ _ ?_
  clear hK K
  go_end0
  exact ⟨rfl, HF.out⟩
end
end Go.Proofs.YtoaponaljkhlfaaGreatDoor
