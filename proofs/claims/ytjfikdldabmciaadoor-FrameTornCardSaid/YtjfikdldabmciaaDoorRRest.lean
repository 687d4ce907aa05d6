/-
  The document's rest (layer 9).
-/
import Derived.Test.YtjfikdldabmciaaDoorRBits
namespace Go.Proofs.YtjfikdldabmciaaDoor
open Go Go.RowKit
set_option maxRecDepth 100000

def flipK (l : List Bool) (i k : Nat) : List Bool := (powL.take k).foldl (fun l p => l.modify (i + 32 - p) (! ·)) (l.set i false)
theorem flipK_length (l : List Bool) (i : Nat) : ∀ k, (flipK l i k).length = l.length := by
  intro k
  unfold flipK
  generalize powL.take k = P
  have : ∀ (P : List Nat) (m : List Bool), (P.foldl (fun l p => l.modify (i + 32 - p) (! ·)) m).length = m.length := by
    intro P
    induction P with
    | nil => intro m; rfl
    | cons p P ih => intro m; rw [List.foldl_cons, ih, List.length_modify]
  rw [this, List.length_set]
theorem flipK_s (l : List Bool) (i : Nat) {k p : Nat} (h : powL[k]? = some p) : flipK l i (k + 1) = (flipK l i k).modify (i + 32 - p) (! ·) := by
  unfold flipK
  rw [List.take_add_one, h, Option.toList_some, List.foldl_append]
  rfl
theorem modify_set {l : List Bool} {j : Nat} (hj : j < l.length) : l.modify j (! ·) = l.set j (! l.getD j false) := by
  refine List.ext_getElem (by simp) fun i h1 h2 => ?_
  rw [List.getElem_modify, List.getElem_set]
  split
  · rename_i h; subst h; rw [List.getD_eq_getElem?_getD, List.getElem?_eq_getElem hj]; rfl
  · rfl
theorem flip_K (l : List Bool) (i : Nat) : flipL l i = flipK l i 14 := rfl
theorem stepsL_s (l : List Bool) (n : Nat) : stepsL l (n + 1) = stepL (stepsL l n) n := by
  unfold stepsL
  rw [List.range_succ, List.foldl_append]
  rfl
theorem stepsL_length (l : List Bool) : ∀ n, (stepsL l n).length = l.length
  | 0 => rfl
  | n + 1 => by
    rw [stepsL_s, stepL]
    split
    · rw [flip_K, flipK_length, stepsL_length l n]
    · exact stepsL_length l n
theorem pow_le {k p : Nat} (h : powL[k]? = some p) : p ≤ 26 := by
  have : ∀ x ∈ powL, x ≤ 26 := by decide
  exact this p (List.mem_of_getElem? h)
theorem own_emptyBo (w : World) (base k : Nat) (hk : k = w.heap.size) (hb : base ≤ w.heap.size) : (w.alloc (.cells #[] 4)).ownsRow base 4 1 (.slice (some ⟨k, 0, none⟩) 0 0) 0 [] := by
  subst hk
  exact ⟨rfl, .inr ⟨w.heap.size, 0, #[], rfl, hb, heap_alloc_new w _, by simp, by unfold maxLen; omega, by simp, by simp⟩⟩
theorem pow_cells (w : World) (t : TypeId) {k p : Nat} (h : powL[k]? = some p) : (w.alloc (.cells #[.int .i64 26, .int .i64 23, .int .i64 22, .int .i64 16, .int .i64 12, .int .i64 11, .int .i64 10, .int .i64 8, .int .i64 7, .int .i64 5, .int .i64 4, .int .i64 2, .int .i64 1, .int .i64 0] t)).cell? ⟨w.heap.size, k, none⟩ = some (.int .i64 (p : Int)) := by
  unfold World.cell?
  rw [World.alloc_heap_new]
  show (powL.map (fun (p : Nat) => Value.int .i64 (p : Int))).toArray[k]? = _
  simp [h]
set_option maxHeartbeats 4000000 in
theorem rrest_calls (A : Option Addr) (c : Nat) (l : List Bool) (w : World) (h32 : 32 ≤ l.length) (hl : l.length ≤ 1000000) (hR : RdV Value.bool w A l) :
    Calls Tryd.prog 30 #[.slice A l.length c] w fun e w' => ∃ g c', e = .returned (.slice (some ⟨g, l.length - 32, none⟩) 32 c') ∧ w.heap.size ≤ g ∧ RowW Value.bool w' (fun k => k = g) (some ⟨g, l.length - 32, none⟩) (restL l) ∧ Below w.heap.size w w' := by
  obtain ⟨i1, hi1, hy0, hy1, hy2⟩ := info_parts infoBo
  obtain ⟨g, o, rfl, hg, hc⟩ := hR (by omega)
  have HC := Lib.hid hc
  have Hl := Lib.hid hl
  clear hc hR hl
  go_enter Tryd.func30, Tryd.ntmps30
  go_wp2_with (at_builtin; refine wpList_append_own _ rfl _ _ 54 rfl (w.heap.size + 1) 4 i1 _ 1 1 Tryd.underlying54 hi1 hy0 hy1 hy2 rfl (by decide) _ _ _ rfl (own_emptyBo _ _ _ ?d6 ?d0) ⟨g, o, none⟩ l.length c (l.map Value.bool) rfl (by rw [List.length_map, Nat.mul_one]) ?d1 ?d2 ?d3 ?d4 ?d5 ?_)
  case d6 => simp
  case d0 => simp
  case d1 =>
    intro j u hj
    rw [List.getElem?_map] at hj
    obtain ⟨x, hx, rfl⟩ := Option.map_eq_some_iff.1 hj
    rw [Addr.add_lit]
    exact Only.cell (R := fun _ => False) (((Only.refl _ w).alloc _).alloc _) (HC.out j x hx) (fun h => h)
  case d2 => intro u hu; obtain ⟨x, _, rfl⟩ := List.mem_map.1 hu; rfl
  case d3 => have := Hl.out; unfold maxLen; omega
  case d4 => have := Hl.out; omega
  case d5 => simp
  intro v' w5 hown5 hgrow _
  have hb5 : Below w.heap.size w w5 := ((((Below.refl _ w).alloc (Nat.le_refl _) _).alloc (by simp) _).grown hgrow (by simp; omega) (fun k hk => by cases hk; simp))
  have HB5 := Lib.hid hb5
  have HP5 : Hid (∀ k p : Nat, powL[k]? = some p → w5.cell? ⟨w.heap.size, k, none⟩ = some (.int .i64 (p : Int))) := Lib.hid fun k p h => by
    refine Only.cell (R := fun i => i = w.heap.size + 1) (((Only.refl _ _).alloc _).trans (Only.of_grown hgrow (fun k hk => by cases hk; rfl)) (fun i h => .inl h)) (pow_cells w 3 h) (by simp)
  obtain ⟨g5, c5, hv5, hg5, hlt5, hcap5⟩ : ∃ g5 c5, v' = .slice (some ⟨g5, 0, none⟩) l.length c5 ∧ w.heap.size + 1 ≤ g5 ∧ g5 < w5.heap.size ∧ l.length ≤ c5 := by
    rcases hown5.2 with ⟨hv, h0⟩ | ⟨g, cap, cur, hv, hb, hh, hnc, _⟩
    · omega
    · exact ⟨g, _, hv, hb, (Array.getElem?_eq_some_iff.1 hh).1, hnc⟩
  subst hv5
  have hW5 : RowW Value.bool w5 (fun k => k = g5) (some ⟨g5, 0, none⟩) l := rowW_of_own hown5 (fun k hk => by cases hk; rfl)
  have HW5 := Lib.hid hW5
  clear hown5 hgrow hb5 hW5
  go_wp2_with fail
  go_loopw [5, 6, 7] (fun v5 v6 v7 wr => ∃ i : Nat, i + 32 ≤ l.length ∧ v5 = .int .i64 (i : Int) ∧ Hid (RowW Value.bool wr (fun k => k = g5) (some ⟨g5, 0, none⟩) (stepsL l i)) ∧ Hid (Only (fun k => k = g5) w5 wr)) (fun v5 _ _ _ => l.length - (intOf v5).toNat)
  case atStart => exact ⟨0, by omega, rfl, HW5, Lib.hid (Only.refl _ _)⟩
  case round =>
    obtain ⟨i, hi, rfl, hW, hO⟩ := hrel
    have hg5w : g5 < wr.heap.size := Nat.lt_of_lt_of_le hlt5 hO.out.size
    have Hl' := Hl.out
    by_cases hlt : i + 32 < l.length
    · have hil : (i : Int) + 32 < (l.length : Int) := by omega
      have hgi : (stepsL l i)[i]? = some ((stepsL l i).getD i false) := by
        rw [List.getD_eq_getElem?_getD, List.getElem?_eq_getElem (by rw [stepsL_length]; omega)]; rfl
      have hci : wr.cell? ⟨g5, i, none⟩ = some (.bool ((stepsL l i).getD i false)) ∧ wr.frozen? ⟨g5, i, none⟩ = false := by
        obtain ⟨g', o', e, _, _, hc⟩ := hW.out (by rw [stepsL_length]; omega)
        cases e
        have := hc i _ hgi
        rwa [Nat.zero_add] at this
      obtain ⟨c0, f0⟩ := hci
      have HSt := Lib.hid (stepsL_s l i)
      have HLn := Lib.hid (stepsL_length l i)
      clear hgi
      generalize stepsL l i = m at *
      by_cases hq : m.getD i false = true
      · have HS1 : Hid (stepsL l (i + 1) = flipK m i 14) := Lib.hid (by rw [HSt.out, stepL, hq]; rfl)
        rw [hq] at c0
        clear hq HSt
        have hX : Hid (RowW Value.bool (wr.setCell ⟨g5, i, none⟩ (.bool false)) (fun k => k = g5) (some ⟨g5, 0, none⟩) (flipK m i 0)) := Lib.hid (by
          have := hW.out.set i (by rw [HLn.out]; omega) false
          rwa [Nat.zero_add] at this)
        have hO2 := Lib.hid (hO.out.set (p := ⟨g5, i, none⟩) (.inl rfl) (.bool false))
        clear hW hO
        go_wp2_with fail
        go_loopw [6, 7] (fun v6 v7 wq => ∃ k : Nat, k ≤ 14 ∧ v6 = .int .i64 (k : Int) ∧ Hid (RowW Value.bool wq (fun k => k = g5) (some ⟨g5, 0, none⟩) (flipK m i k)) ∧ Hid (Only (fun k => k = g5) w5 wq)) (fun v6 _ _ => 14 - (intOf v6).toNat)
        case atStart => exact ⟨0, by omega, rfl, hX, hO2⟩
        case round =>
          obtain ⟨k, hk, rfl, hW, hO⟩ := hrel
          by_cases hk14 : k < 14
          · have hkl : (k : Int) < 14 := by omega
            obtain ⟨p, hp⟩ : ∃ p, powL[k]? = some p := ⟨_, List.getElem?_eq_getElem (show k < powL.length from hk14)⟩
            have cp : wr.cell? ⟨w.heap.size, k, none⟩ = some (.int .i64 (p : Int)) := Only.cell hO.out (HP5.out k p hp) (show ¬ (w.heap.size = g5) by omega)
            have hp26 := pow_le hp
            have HF := Lib.hid (flipK_s m i hp)
            have HFl := Lib.hid (flipK_length m i k)
            clear hp
            obtain ⟨j, hj⟩ : ∃ j, j = i + 32 - p := ⟨_, rfl⟩
            have hji : (i : Int) + 32 - (p : Int) = (j : Int) := by omega
            rw [← hj] at HF
            have hjl : j < m.length := by rw [HLn.out]; omega
            have hcj : wr.cell? ⟨g5, j, none⟩ = some (.bool ((flipK m i k).getD j false)) ∧ wr.frozen? ⟨g5, j, none⟩ = false := by
              obtain ⟨g', o', e, _, _, hc⟩ := hW.out (by rw [HFl.out]; omega)
              cases e
              have := hc j ((flipK m i k).getD j false) (by rw [List.getD_eq_getElem?_getD, List.getElem?_eq_getElem (by rw [HFl.out]; omega)]; rfl)
              rwa [Nat.zero_add] at this
            obtain ⟨c1, f1⟩ := hcj
            have hX2 : Hid (RowW Value.bool (wr.setCell ⟨g5, j, none⟩ (.bool (! (flipK m i k).getD j false))) (fun k => k = g5) (some ⟨g5, 0, none⟩) (flipK m i (k + 1))) := Lib.hid (by
              have := hW.out.set j (by rw [HFl.out]; omega) (! (flipK m i k).getD j false)
              rwa [Nat.zero_add, ← modify_set (by rw [HFl.out]; omega), ← HF.out] at this)
            have hO3 := Lib.hid (hO.out.set (p := ⟨g5, j, none⟩) (.inl rfl) (.bool (! (flipK m i k).getD j false)))
            have hgw : g5 < wr.heap.size := Nat.lt_of_lt_of_le hlt5 hO.out.size
            clear hW hO HF hj
            generalize (flipK m i k).getD j false = q at *
            go_wp2_with fail
            go_roundw
            case rel => exact ⟨k + 1, by omega, by go_num, hX2, hO3⟩
            case measure => simp [intOf]; omega
          · obtain rfl : k = 14 := by omega
            go_wp2_with fail
            go_roundw
            case rel => exact ⟨i + 1, by omega, by go_num, by rw [HS1.out]; exact hW, hO⟩
            case measure => simp [intOf]; omega
      · have HS1 : Hid (stepsL l (i + 1) = m) := Lib.hid (by rw [HSt.out, stepL, if_neg hq])
        rw [Bool.not_eq_true] at hq
        rw [hq] at c0
        clear hq HSt
        go_wp2_with fail
        go_roundw
        case rel => exact ⟨i + 1, by omega, by go_num, by rw [HS1.out]; exact hW, hO⟩
        case measure => simp [intOf]; omega
    · obtain rfl : i = l.length - 32 := by omega
      have hgl : ((l.length - 32 : Nat) : Int) + 32 = (l.length : Int) := by omega
      go_wp2_with fail
      go_ret
      refine ⟨g5, c5 - (l.length - 32), by rw [show l.length - (l.length - 32) = 32 by omega]; rfl, by omega, ?_, HB5.out.trans (hO.out.below (B := w.heap.size) HB5.out.size (fun k hk => by omega)) ⟩
      have := RowW.drop hW.out (l.length - 32)
      rwa [Nat.zero_add] at this
end Go.Proofs.YtjfikdldabmciaaDoor
