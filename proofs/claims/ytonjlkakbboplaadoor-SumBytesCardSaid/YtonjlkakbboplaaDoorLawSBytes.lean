/-
  SumBytes (layer 9).
-/
import Derived.Test.YtonjlkakbboplaaDoorSumAlive
import Derived.Test.YtonjlkakbboplaaDoorSumBMath
import Derived.Test.YtonjlkakbboplaaDoorRowW
namespace Go.Proofs.YtonjlkakbboplaaDoor
open Go Go.RowKit
set_option maxRecDepth 100000

theorem run_append_no {P : Program} (w : World) (t ty e : TypeId) (i : TypeInfo) (ht : P.underlying t = some (.slice e)) (hi : P.info? e = some i) (ad : Addr) (n sc : Nat) (hn : n ≤ sc) (A : Option Addr) (c : Nat) :
    (Builtin.append_ #[t, t] ty #[.slice (some ad) n sc, .slice A 0 c]).run P w = .ok (.slice (some ad) n sc) w := by
  cases A <;> simp [Builtin.append_, run_underlying ht, sizeOf, typeInfo, hi, hn, storeCells, Builtin.lenOf, Builtin.firstCells, loadCells, loadCellsFrom]
theorem rdV_of_byt {w : World} {A : Option Addr} {l : List UInt8} (h : Byt w A l) : RdV (fun u : UInt8 => Value.int .u8 (u.toNat : Int)) w A l := fun hn => by
  obtain ⟨g, o, e, hg, hc⟩ := h.at_ hn
  refine ⟨g, o, e, hg, fun i x hx => ?_⟩
  obtain ⟨hi, rfl⟩ := List.getElem?_eq_some_iff.1 hx
  have := hc i hi
  rwa [List.getD_eq_getElem?_getD, List.getElem?_eq_getElem hi] at this
/-- An append of bytes onto four bytes that have no room. -/
theorem app_four (w : World) (g : Nat) (xs : List UInt8) (hx4 : xs.length = 4) (hx : Byt w (some ⟨g, 0, none⟩) xs) (A : Option Addr) (c : Nat) (l : List UInt8) (hl : l.length ≤ 1000) (hb : Byt w A l) :
    ∃ A2 c2 w2, (Builtin.append_ #[22, 22] 22 #[.slice (some ⟨g, 0, none⟩) 4 4, .slice A l.length c]).run Tryd.prog w = .ok (.slice A2 (4 + l.length) c2) w2 ∧ Byt w2 A2 (xs ++ l) ∧ Below w.heap.size w w2 := by
  obtain ⟨i1, hi1, hy0, hy1, hy2⟩ := info_parts info8
  by_cases h0 : l = []
  · subst h0
    exact ⟨_, _, _, run_append_no w _ _ _ i1 Tryd.underlying22 hi1 _ 4 4 (Nat.le_refl _) A c, by rw [List.append_nil]; exact hx, Below.refl _ _⟩
  · have hpos : 0 < l.length := List.length_pos_iff.2 h0
    obtain ⟨c', w', hr, ho, hbel, _⟩ := run_append_full (P := Tryd.prog) (V := fun u : UInt8 => Value.int .u8 (u.toNat : Int)) w 22 22 5 i1 _ 1 Tryd.underlying22 hi1 hy0 hy1 hy2 rfl (by decide) g 0 4 xs (rdV_of_byt hx) A c l hpos (rdV_of_byt hb) (by omega) (by omega)
    rw [hx4] at hr ho
    have ho' : w'.ownsRow w.heap.size 5 1 (.slice (some ⟨w.heap.size, 0, none⟩) (4 + l.length) c') (xs ++ l).length (Lib.byteCells (xs ++ l)) := by
      rw [List.length_append, hx4]
      exact ho
    exact ⟨_, _, _, hr, (byt_of_own ho').1, hbel⟩
set_option maxHeartbeats 4000000 in
theorem lsbytes_calls (s : BitVec 32) (A : Option Addr) (c : Nat) (l : List UInt8) (w : World) (hb : Byt w A l) (hm : l.length ≤ 9223372036854775807) (ht : Lays w) :
    Calls Tryd.prog 8 #[.int .u32 (s.toNat : Int), .slice A l.length c] w fun e w' => e = .returned (.bool true) ∧ Below w.heap.size w w' := by
  have HB := Lib.hid hb
  have HT := Lib.hid ht
  clear hb ht
  go_enter Tryd.func8, Tryd.ntmps8
  by_cases hbig : 100 < l.length
  · have hbi : (100 : Int) < (l.length : Int) := by omega
    go_wp2_with fail
    refine (salive_calls w HT.out).mono ?_
    rintro _ w1 ⟨rfl, hb1⟩
    have HB1 := Lib.hid hb1
    clear hb1
    go_wp2_with fail
    go_ret
    exact ⟨rfl, HB1.out⟩
  · have hbi : ¬ ((100 : Int) < (l.length : Int)) := by omega
    go_wp2_with fail
    refine (sbytes_calls s w).mono ?_
    rintro _ w1 ⟨rfl, hb1⟩
    have HB1 := Lib.hid hb1
    clear hb1
    have hbx : Byt (w1.alloc (.cells #[.int .u8 (byV s 0 : Int), .int .u8 (byV s 1 : Int), .int .u8 (byV s 2 : Int), .int .u8 (byV s 3 : Int)] 38)) (some ⟨w1.heap.size, 0, none⟩) (bl4 s) := Byt.mk_ fun i hi => by
      rw [Nat.zero_add]
      unfold World.cell?
      rw [World.alloc_heap_new]
      match i, hi with
      | 0, _ => exact congrArg (fun n : Nat => some (Value.int .u8 (n : Int))) (by_nat s 0).symm
      | 1, _ => exact congrArg (fun n : Nat => some (Value.int .u8 (n : Int))) (by_nat s 1).symm
      | 2, _ => exact congrArg (fun n : Nat => some (Value.int .u8 (n : Int))) (by_nat s 2).symm
      | 3, _ => exact congrArg (fun n : Nat => some (Value.int .u8 (n : Int))) (by_nat s 3).symm
    obtain ⟨A2, c2, w2, hrun, hB2, hbel2⟩ := app_four _ _ (bl4 s) rfl hbx A c l (by omega) ((HB.out.below HB1.out).alloc _)
    have Hr := Lib.hid hrun
    have H2 := Lib.hid hB2
    have HB2 := Lib.hid ((HB1.out.alloc HB1.out.size _).trans (hbel2.mono (by simp; have := HB1.out.size; omega)))
    clear hrun hB2 hbel2 hbx
    go_wp2_with (at_builtin; refine wpList_append_g (o := ⟨some 19, _, _, _, _, _⟩) (by kernel_rfl) (.tmp 17) (.tmp 18) 22 rfl _ _ rfl rfl Hr.out ?_)
    clear Hr
    go_wp2_with fail
    have HRd : Hid (Calls Tryd.prog 18 #[.slice A2 (4 + l.length) c2] w2 fun e w' => e = .returned (.tuple #[.int .u32 (s.toNat : Int), .bool true]) ∧ Below w2.heap.size w2 w') := Lib.hid (by
      have h := sread_calls A2 c2 (bl4 s ++ l) w2 H2.out (by rw [List.length_append]; show 4 + l.length ≤ _; omega)
      have h4 : 4 ≤ (bl4 s ++ l).length := by rw [List.length_append]; show 4 ≤ 4 + l.length; omega
      rw [if_pos h4, read_bl4, decide_eq_true h4, show (bl4 s ++ l).length = 4 + l.length by rw [List.length_append]; rfl] at h
      exact h)
    refine HRd.out.mono ?_
    rintro _ w3 ⟨rfl, hb3⟩
    have HB3 := Lib.hid (HB2.out.trans (hb3.mono HB2.out.size))
    clear hb3 HRd HB2 H2 HB1
    go_wp2_with fail
    refine (sread_calls A c l w3 (HB.out.below HB3.out) (by omega)).mono ?_
    rintro _ w4 ⟨rfl, hb4⟩
    have HB4 := Lib.hid (HB3.out.trans (hb4.mono HB3.out.size))
    clear hb4 HB3
    by_cases h4 : 4 ≤ l.length
    · have h4i : (4 : Int) ≤ (l.length : Int) := by omega
      rw [if_pos h4, decide_eq_true h4]
      obtain ⟨g, o, rfl, hg, hc⟩ := (HB.out.below HB4.out).at_ (by omega)
      have c0 := hc 0 (by omega)
      have c1 := hc 1 (by omega)
      have c2 := hc 2 (by omega)
      have c3 := hc 3 (by omega)
      rw [Nat.add_zero] at c0
      have HBy : Hid (∀ W : World, Calls Tryd.prog 17 #[.int .u32 (readN l : Int)] W fun e w' => e = .returned (.agg #[.int .u8 ((l.getD 0 0).toNat : Int), .int .u8 ((l.getD 1 0).toNat : Int), .int .u8 ((l.getD 2 0).toNat : Int), .int .u8 ((l.getD 3 0).toNat : Int)]) ∧ Below W.heap.size W w') := Lib.hid (fun W => by
        have := sbytes_calls (BitVec.ofNat 32 (readN l)) W
        rw [(by_read l).1, (by_read l).2.1, (by_read l).2.2.1, (by_read l).2.2.2, read_nat] at this
        exact this)
      have hq := eqA4 ((l.getD 0 0).toNat : Int) ((l.getD 1 0).toNat : Int) ((l.getD 2 0).toNat : Int) ((l.getD 3 0).toNat : Int)
      generalize (l.getD 0 0).toNat = b0 at *
      generalize (l.getD 1 0).toNat = b1 at *
      generalize (l.getD 2 0).toNat = b2 at *
      generalize (l.getD 3 0).toNat = b3 at *
      generalize readN l = r at *
      have HKeep : Hid (∀ W W', (fun w' => w'.cell? ⟨g, o, none⟩ = some (.int .u8 (b0 : Int)) ∧ w'.cell? ⟨g, o + 1, none⟩ = some (.int .u8 (b1 : Int)) ∧ w'.cell? ⟨g, o + 2, none⟩ = some (.int .u8 (b2 : Int)) ∧ w'.cell? ⟨g, o + 3, none⟩ = some (.int .u8 (b3 : Int)) ∧ Lays w') W → Below W.heap.size W W' → (fun w' => w'.cell? ⟨g, o, none⟩ = some (.int .u8 (b0 : Int)) ∧ w'.cell? ⟨g, o + 1, none⟩ = some (.int .u8 (b1 : Int)) ∧ w'.cell? ⟨g, o + 2, none⟩ = some (.int .u8 (b2 : Int)) ∧ w'.cell? ⟨g, o + 3, none⟩ = some (.int .u8 (b3 : Int)) ∧ Lays w') W') := Lib.hid (fun W W' h hW => ⟨(hW.cell (p := ⟨g, o, none⟩) (World.block_lt_of_cell? _ _ h.1)).trans h.1, (hW.cell (p := ⟨g, o + 1, none⟩) (World.block_lt_of_cell? _ _ h.2.1)).trans h.2.1, (hW.cell (p := ⟨g, o + 2, none⟩) (World.block_lt_of_cell? _ _ h.2.2.1)).trans h.2.2.1, (hW.cell (p := ⟨g, o + 3, none⟩) (World.block_lt_of_cell? _ _ h.2.2.2.1)).trans h.2.2.2.1, h.2.2.2.2.on hW⟩)
      have k0 : (fun w' => w'.cell? ⟨g, o, none⟩ = some (.int .u8 (b0 : Int)) ∧ w'.cell? ⟨g, o + 1, none⟩ = some (.int .u8 (b1 : Int)) ∧ w'.cell? ⟨g, o + 2, none⟩ = some (.int .u8 (b2 : Int)) ∧ w'.cell? ⟨g, o + 3, none⟩ = some (.int .u8 (b3 : Int)) ∧ Lays w') w4.drew := ⟨c0, c1, c2, c3, (HT.out.on HB4.out : Lays w4)⟩
      have HB0 := Lib.hid HB4.out.drew
      have n0 : 0 < l.length := by omega
      have n1 : 1 < l.length := by omega
      have n2 : 2 < l.length := by omega
      have n3 : 3 < l.length := by omega
      have m1 : (1 : Int) < (l.length : Int) := by omega
      have m2 : (2 : Int) < (l.length : Int) := by omega
      have m3 : (3 : Int) < (l.length : Int) := by omega
      clear hc HB hg HB4 h4 hbig hbi hm
      go_upto_region 7 with fail
      refine wp_region_held_drew (S := (fun w' => w'.cell? ⟨g, o, none⟩ = some (.int .u8 (b0 : Int)) ∧ w'.cell? ⟨g, o + 1, none⟩ = some (.int .u8 (b1 : Int)) ∧ w'.cell? ⟨g, o + 2, none⟩ = some (.int .u8 (b2 : Int)) ∧ w'.cell? ⟨g, o + 3, none⟩ = some (.int .u8 (b3 : Int)) ∧ Lays w')) (by kernel_rfl) k0 (fun hHeld => ?_)
      refine wpAnyH_ready (rs := [0]) (by kernel_rfl) (by simp) ?_
      refine AllReadyH.cons (o := ⟨some 31, _, _, _, _, _⟩) rfl (fun K hK => ?_) AllReadyH.nil
      (rw [if_pos (by kernel_rfl)])
      go_simp
      refine (salive_calls _ k0.2.2.2.2).mono ?_; rintro e z1 ⟨rfl, hb⟩; have HB1 := Lib.hid (HB0.out.trans (hb.mono HB0.out.size)); have k1 := HKeep.out _ _ k0 hb; clear hb
      refine hK.out _ _ k1 (fun hHeld => ?_)
      clear hK K
      refine wpAnyH_take (i := 1) (oi := ⟨some 32, _, _, _, _, _⟩) (v := ?_) rfl (by kernel_rfl) (by kernel_rfl) (by kernel_rfl) (fun _ _ _ h => h) (Or.inl ⟨by kernel_rfl, ?hy1⟩) (by assumption) ?_
      case hy1 => (intro w' hSw; (try dsimp only at hSw); go_simp; try with_reducible rfl)
      simp only [Act.put, List.setIfInBounds_toArray, List.set_cons_zero, List.set_cons_succ]
      refine wpAnyH_take (i := 2) (oi := ⟨some 33, _, _, _, _, _⟩) (v := ?_) rfl (by kernel_rfl) (by kernel_rfl) (by kernel_rfl) (fun _ _ _ h => h) (Or.inl ⟨by kernel_rfl, ?hy2⟩) (by assumption) ?_
      case hy2 => (intro w' hSw; (try dsimp only at hSw); go_simp; try with_reducible rfl)
      simp only [Act.put, List.setIfInBounds_toArray, List.set_cons_zero, List.set_cons_succ]
      refine wpAnyH_take (i := 3) (oi := ⟨some 34, _, _, _, _, _⟩) (v := ?_) rfl (by kernel_rfl) (by kernel_rfl) (by kernel_rfl) (fun _ _ _ h => h) (Or.inl ⟨by kernel_rfl, ?hy3⟩) (by assumption) ?_
      case hy3 => (intro w' hSw; (try dsimp only at hSw); go_simp; try with_reducible rfl)
      simp only [Act.put, List.setIfInBounds_toArray, List.set_cons_zero, List.set_cons_succ]
      refine wpAnyH_take (i := 4) (oi := ⟨some 35, _, _, _, _, _⟩) (v := ?_) rfl (by kernel_rfl) (by kernel_rfl) (by kernel_rfl) (fun _ _ _ h => h) (Or.inl ⟨by kernel_rfl, ?hy4⟩) (by assumption) ?_
      case hy4 => (intro w' hSw; (try dsimp only at hSw); go_simp; try with_reducible rfl)
      simp only [Act.put, List.setIfInBounds_toArray, List.set_cons_zero, List.set_cons_succ]
      refine wpAnyH_take (i := 5) (oi := ⟨some 36, _, _, _, _, _⟩) (v := ?_) rfl (by kernel_rfl) (by kernel_rfl) (by kernel_rfl) (fun _ _ _ h => h) (Or.inl ⟨by kernel_rfl, ?hy5⟩) (by assumption) ?_
      case hy5 => (intro w' hSw; (try dsimp only at hSw); go_simp; try with_reducible rfl)
      simp only [Act.put, List.setIfInBounds_toArray, List.set_cons_zero, List.set_cons_succ]
      refine wpAnyH_take (i := 6) (oi := ⟨some 37, _, _, _, _, _⟩) (v := ?_) rfl (by kernel_rfl) (by kernel_rfl) (by kernel_rfl) (fun _ _ _ h => h) (Or.inl ⟨by kernel_rfl, ?hy6⟩) (by assumption) ?_
      case hy6 => (intro w' hSw; (try dsimp only at hSw); go_simp; try with_reducible rfl)
      simp only [Act.put, List.setIfInBounds_toArray, List.set_cons_zero, List.set_cons_succ]
      refine wpAnyH_take (i := 7) (oi := ⟨some 38, _, _, _, _, _⟩) (v := ?_) rfl (by kernel_rfl) (by kernel_rfl) (by kernel_rfl) (fun _ _ _ h => h) (Or.inl ⟨by kernel_rfl, ?hy7⟩) (by assumption) ?_
      case hy7 => (intro w' hSw; (try dsimp only at hSw); go_simp; try with_reducible rfl)
      simp only [Act.put, List.setIfInBounds_toArray, List.set_cons_zero, List.set_cons_succ]
      refine wpAnyH_take (i := 8) (oi := ⟨some 39, _, _, _, _, _⟩) (v := ?_) rfl (by kernel_rfl) (by kernel_rfl) (by kernel_rfl) (fun _ _ _ h => h) (Or.inl ⟨by kernel_rfl, ?hy8⟩) (by assumption) ?_
      case hy8 => (intro w' hSw; (try dsimp only at hSw); go_simp; try with_reducible rfl)
      simp only [Act.put, List.setIfInBounds_toArray, List.set_cons_zero, List.set_cons_succ]
      refine wpAnyH_take (i := 9) (oi := ⟨some 40, _, _, _, _, _⟩) (v := ?_) rfl (by kernel_rfl) (by kernel_rfl) (by kernel_rfl) (fun _ _ _ h => h) (Or.inl ⟨by kernel_rfl, ?hy9⟩) (by assumption) ?_
      case hy9 => (intro w' hSw; (try dsimp only at hSw); go_simp; try with_reducible rfl)
      simp only [Act.put, List.setIfInBounds_toArray, List.set_cons_zero, List.set_cons_succ]
      refine wpAnyH_take (i := 10) (oi := ⟨some 41, _, _, _, _, _⟩) (v := ?_) rfl (by kernel_rfl) (by kernel_rfl) (by kernel_rfl) (fun _ _ _ h => h) (Or.inl ⟨by kernel_rfl, ?hy10⟩) (by assumption) ?_
      case hy10 => (intro w' hSw; (try dsimp only at hSw); go_simp; try with_reducible rfl)
      simp only [Act.put, List.setIfInBounds_toArray, List.set_cons_zero, List.set_cons_succ]
      refine wpAnyH_take (i := 11) (oi := ⟨some 42, _, _, _, _, _⟩) (v := ?_) rfl (by kernel_rfl) (by kernel_rfl) (by kernel_rfl) (fun _ _ _ h => h) (Or.inl ⟨by kernel_rfl, ?hy11⟩) (by assumption) ?_
      case hy11 => (intro w' hSw; (try dsimp only at hSw); go_simp; try with_reducible rfl)
      simp only [Act.put, List.setIfInBounds_toArray, List.set_cons_zero, List.set_cons_succ]
      refine wpAnyH_take (i := 12) (oi := ⟨some 43, _, _, _, _, _⟩) (v := ?_) rfl (by kernel_rfl) (by kernel_rfl) (by kernel_rfl) (fun _ _ _ h => h) (Or.inl ⟨by kernel_rfl, ?hy12⟩) (by assumption) ?_
      case hy12 => (intro w' hSw; (try dsimp only at hSw); go_simp; try with_reducible rfl)
      simp only [Act.put, List.setIfInBounds_toArray, List.set_cons_zero, List.set_cons_succ]
      refine wpAnyH_take (i := 13) (oi := ⟨some 44, _, _, _, _, _⟩) (v := ?_) rfl (by kernel_rfl) (by kernel_rfl) (by kernel_rfl) (fun _ _ _ h => h) (Or.inl ⟨by kernel_rfl, ?hy13⟩) (by assumption) ?_
      case hy13 => (intro w' hSw; (try dsimp only at hSw); go_simp; try with_reducible rfl)
      simp only [Act.put, List.setIfInBounds_toArray, List.set_cons_zero, List.set_cons_succ]
      refine wpAnyH_take (i := 15) (oi := ⟨some 46, _, _, _, _, _⟩) (v := ?_) rfl (by kernel_rfl) (by kernel_rfl) (by kernel_rfl) (fun _ _ _ h => h) (Or.inl ⟨by kernel_rfl, ?hy15⟩) (by assumption) ?_
      case hy15 => (intro w' hSw; (try dsimp only at hSw); go_simp; try with_reducible rfl)
      simp only [Act.put, List.setIfInBounds_toArray, List.set_cons_zero, List.set_cons_succ]
      refine wpAnyH_take (i := 16) (oi := ⟨some 47, _, _, _, _, _⟩) (v := ?_) rfl (by kernel_rfl) (by kernel_rfl) (by kernel_rfl) (fun _ _ _ h => h) (Or.inl ⟨by kernel_rfl, ?hy16⟩) (by assumption) ?_
      case hy16 => (intro w' hSw; (try dsimp only at hSw); go_simp; try with_reducible rfl)
      simp only [Act.put, List.setIfInBounds_toArray, List.set_cons_zero, List.set_cons_succ]
      refine wpAnyH_take (i := 17) (oi := ⟨some 48, _, _, _, _, _⟩) (v := ?_) rfl (by kernel_rfl) (by kernel_rfl) (by kernel_rfl) (fun _ _ _ h => h) (Or.inl ⟨by kernel_rfl, ?hy17⟩) (by assumption) ?_
      case hy17 => (intro w' hSw; (try dsimp only at hSw); go_simp; try with_reducible rfl)
      simp only [Act.put, List.setIfInBounds_toArray, List.set_cons_zero, List.set_cons_succ]
      refine wpAnyH_take (i := 18) (oi := ⟨some 49, _, _, _, _, _⟩) (v := ?_) rfl (by kernel_rfl) (by kernel_rfl) (by kernel_rfl) (fun _ _ _ h => h) (Or.inl ⟨by kernel_rfl, ?hy18⟩) (by assumption) ?_
      case hy18 => (intro w' hSw; (try dsimp only at hSw); go_simp; try with_reducible rfl)
      simp only [Act.put, List.setIfInBounds_toArray, List.set_cons_zero, List.set_cons_succ]
      refine wpAnyH_take (i := 19) (oi := ⟨some 50, _, _, _, _, _⟩) (v := ?_) rfl (by kernel_rfl) (by kernel_rfl) (by kernel_rfl) (fun _ _ _ h => h) (Or.inl ⟨by kernel_rfl, ?hy19⟩) (by assumption) ?_
      case hy19 => (intro w' hSw; (try dsimp only at hSw); go_simp; try with_reducible rfl)
      simp only [Act.put, List.setIfInBounds_toArray, List.set_cons_zero, List.set_cons_succ]
      refine wpAnyH_take (i := 20) (oi := ⟨some 51, _, _, _, _, _⟩) (v := ?_) rfl (by kernel_rfl) (by kernel_rfl) (by kernel_rfl) (fun _ _ _ h => h) (Or.inl ⟨by kernel_rfl, ?hy20⟩) (by assumption) ?_
      case hy20 => (intro w' hSw; (try dsimp only at hSw); go_simp; try with_reducible rfl)
      simp only [Act.put, List.setIfInBounds_toArray, List.set_cons_zero, List.set_cons_succ]
      refine wpAnyH_take (i := 21) (oi := ⟨some 52, _, _, _, _, _⟩) (v := ?_) rfl (by kernel_rfl) (by kernel_rfl) (by kernel_rfl) (fun _ _ _ h => h) (Or.inl ⟨by kernel_rfl, ?hy21⟩) (by assumption) ?_
      case hy21 => (intro w' hSw; (try dsimp only at hSw); go_simp; try with_reducible rfl)
      simp only [Act.put, List.setIfInBounds_toArray, List.set_cons_zero, List.set_cons_succ]
      refine wpAnyH_take (i := 22) (oi := ⟨some 53, _, _, _, _, _⟩) (v := ?_) rfl (by kernel_rfl) (by kernel_rfl) (by kernel_rfl) (fun _ _ _ h => h) (Or.inl ⟨by kernel_rfl, ?hy22⟩) (by assumption) ?_
      case hy22 => (intro w' hSw; (try dsimp only at hSw); go_simp; try with_reducible rfl)
      simp only [Act.put, List.setIfInBounds_toArray, List.set_cons_zero, List.set_cons_succ]
      refine wpAnyH_take (i := 23) (oi := ⟨some 54, _, _, _, _, _⟩) (v := ?_) rfl (by kernel_rfl) (by kernel_rfl) (by kernel_rfl) (fun _ _ _ h => h) (Or.inl ⟨by kernel_rfl, ?hy23⟩) (by assumption) ?_
      case hy23 => (intro w' hSw; (try dsimp only at hSw); go_simp; try with_reducible rfl)
      simp only [Act.put, List.setIfInBounds_toArray, List.set_cons_zero, List.set_cons_succ]
      refine wpAnyH_take (i := 24) (oi := ⟨some 55, _, _, _, _, _⟩) (v := ?_) rfl (by kernel_rfl) (by kernel_rfl) (by kernel_rfl) (fun _ _ _ h => h) (Or.inl ⟨by kernel_rfl, ?hy24⟩) (by assumption) ?_
      case hy24 => (intro w' hSw; (try dsimp only at hSw); go_simp; try with_reducible rfl)
      simp only [Act.put, List.setIfInBounds_toArray, List.set_cons_zero, List.set_cons_succ]
      refine wpAnyH_take (i := 25) (oi := ⟨some 56, _, _, _, _, _⟩) (v := ?_) rfl (by kernel_rfl) (by kernel_rfl) (by kernel_rfl) (fun _ _ _ h => h) (Or.inl ⟨by kernel_rfl, ?hy25⟩) (by assumption) ?_
      case hy25 => (intro w' hSw; (try dsimp only at hSw); go_simp; try with_reducible rfl)
      simp only [Act.put, List.setIfInBounds_toArray, List.set_cons_zero, List.set_cons_succ]
      refine wpAnyH_take (i := 26) (oi := ⟨some 57, _, _, _, _, _⟩) (v := ?_) rfl (by kernel_rfl) (by kernel_rfl) (by kernel_rfl) (fun _ _ _ h => h) (Or.inl ⟨by kernel_rfl, ?hy26⟩) (by assumption) ?_
      case hy26 => (intro w' hSw; (try dsimp only at hSw); go_simp; try with_reducible rfl)
      simp only [Act.put, List.setIfInBounds_toArray, List.set_cons_zero, List.set_cons_succ]
      refine wpAnyH_take (i := 27) (oi := ⟨some 58, _, _, _, _, _⟩) (v := ?_) rfl (by kernel_rfl) (by kernel_rfl) (by kernel_rfl) (fun _ _ _ h => h) (Or.inl ⟨by kernel_rfl, ?hy27⟩) (by assumption) ?_
      case hy27 => (intro w' hSw; (try dsimp only at hSw); go_simp; try with_reducible rfl)
      simp only [Act.put, List.setIfInBounds_toArray, List.set_cons_zero, List.set_cons_succ]
      refine wpAnyH_ready (rs := [14]) (by kernel_rfl) (by simp) ?_
      refine AllReadyH.cons (o := ⟨some 45, _, _, _, _, _⟩) rfl (fun K hK => ?_) AllReadyH.nil
      (rw [if_pos (by kernel_rfl)])
      go_simp
      refine (HBy.out _).mono ?_; rintro e z2 ⟨rfl, hb⟩; have HB2 := Lib.hid (HB1.out.trans (hb.mono HB1.out.size)); have k2 := HKeep.out _ _ k1 hb; clear hb
      refine hK.out _ _ k2 (fun hHeld => ?_)
      clear hK K
      refine wpAnyH_take (i := 28) (oi := ⟨some 59, _, _, _, _, _⟩) (v := ?_) rfl (by kernel_rfl) (by kernel_rfl) (by kernel_rfl) (fun _ _ _ h => h) (Or.inl ⟨by kernel_rfl, ?hy28⟩) (by assumption) ?_
      case hy28 => (intro w' hSw; (try dsimp only at hSw); go_simp; try with_reducible rfl)
      simp only [Act.put, List.setIfInBounds_toArray, List.set_cons_zero, List.set_cons_succ]
      refine wpAnyH_take (i := 29) (oi := ⟨some 60, _, _, _, _, _⟩) (v := ?_) rfl (by kernel_rfl) (by kernel_rfl) (by kernel_rfl) (fun _ _ _ h => h) (Or.inl ⟨by kernel_rfl, ?hy29⟩) (by assumption) ?_
      case hy29 => (intro w' hSw; (try dsimp only at hSw); go_simp; try with_reducible rfl)
      simp only [Act.put, List.setIfInBounds_toArray, List.set_cons_zero, List.set_cons_succ]
      refine wpAnyH_take (i := 30) (oi := ⟨some 4, _, _, _, _, _⟩) (v := ?_) rfl (by kernel_rfl) (by kernel_rfl) (by kernel_rfl) (fun _ _ _ h => h) (Or.inl ⟨by kernel_rfl, ?hy30⟩) (by assumption) ?_
      case hy30 => (intro w' hSw; (try dsimp only at hSw); go_simp; try with_reducible rfl)
      simp only [Act.put, List.setIfInBounds_toArray, List.set_cons_zero, List.set_cons_succ]
      refine wpAnyH_done (by kernel_rfl) ?_ _
      go_wp2_with fail
      go_ret
      exact ⟨rfl, HB2.out⟩
    · have h4i : ¬ ((4 : Int) ≤ (l.length : Int)) := by omega
      rw [if_neg h4, decide_eq_false h4]
      clear h4
      go_wp2_with fail
      refine (salive_calls w4 (HT.out.on HB4.out)).mono ?_
      rintro _ w5 ⟨rfl, hb5⟩
      have HB5 := Lib.hid (HB4.out.trans (hb5.mono HB4.out.size))
      clear hb5
      go_wp2_with fail
      go_ret
      exact ⟨rfl, HB5.out⟩
end Go.Proofs.YtonjlkakbboplaaDoor
