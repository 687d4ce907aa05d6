/-
  The document's row and number (layer 9).
-/
import Derived.Test.YtonjlkakbboplaaDoorRBits
namespace Go.Proofs.YtonjlkakbboplaaDoor
open Go Go.RowKit
set_option maxRecDepth 100000

theorem rowV_take (s : BitVec 32) {k : Nat} (hk : k < 32) : (rowV s).take (k + 1) = (rowV s).take k ++ [s.toNat.testBit k] := by
  rw [List.take_add_one]
  congr 1
  unfold rowV
  simp [hk, BitVec.getLsbD]
theorem numL_lt : ∀ l : List Bool, numL l < 2 ^ l.length
  | [] => by decide
  | c :: l => by
    have := numL_lt l
    unfold numL
    rw [List.length_cons, Nat.pow_succ]
    have : c.toNat ≤ 1 := Bool.toNat_le c
    omega
theorem numL_drop {l : List Bool} {k : Nat} (hk : k < l.length) : numL (l.drop k) = 2 * numL (l.drop (k + 1)) + (l.getD k false).toNat := by
  rw [List.drop_eq_getElem_cons hk, List.getD_eq_getElem?_getD, List.getElem?_eq_getElem hk]
  rfl
set_option maxHeartbeats 4000000 in
theorem rrow_calls (s : BitVec 32) (w : World) :
    Calls Tryd.prog 24 #[.int .u32 (s.toNat : Int)] w fun e w' => ∃ v, e = .returned v ∧ OwnB w' w.heap.size v (rowV s) ∧ Below w.heap.size w w' := by
  obtain ⟨i1, hi1, hy0, hy1, hy2⟩ := info_parts infoBo
  have HX0 : Hid ((s.toNat / 2 ^ 0 : Nat) = s.toNat) := Lib.hid (by simp)
  go_enter Tryd.func24, Tryd.ntmps24
  go_wp2_with fail
  go_loopw [0, 3, 4] (fun v0 v3 v4 wr => ∃ k : Nat, k ≤ 32 ∧ v4 = .int .i64 (k : Int) ∧ v0 = .int .u32 ((s.toNat / 2 ^ k : Nat) : Int) ∧ Hid (OwnB wr w.heap.size v3 ((rowV s).take k)) ∧ Hid (Below w.heap.size w wr)) (fun _ _ v4 _ => 32 - (intOf v4).toNat)
  case atStart => exact ⟨0, Nat.zero_le _, rfl, by rw [HX0.out], Lib.hid (World.ownsRow_nil _ _ _ _), Lib.hid (Below.refl _ _)⟩
  case round =>
    obtain ⟨k, hk, rfl, rfl, hown2, hbel2⟩ := hrel
    by_cases hk8 : k < 32
    · have hkl : (k : Int) < 32 := by omega
      have hq := bit_div s.toNat k
      have HDiv : Hid ((s.toNat / 2 ^ k : Nat) / 2 = s.toNat / 2 ^ (k + 1)) := Lib.hid (by rw [Nat.div_div_eq_div_mul, Nat.pow_succ])
      have hx256 : (s.toNat / 2 ^ k : Nat) < 4294967296 := Nat.lt_of_le_of_lt (Nat.div_le_self _ _) s.isLt
      have Hlen : Hid (((rowV s).take k).length ≤ 32) := Lib.hid (by rw [List.length_take]; omega)
      have HTk2 := Lib.hid (rowV_take s hk8)
      have hz := hbel2.out.size
      generalize (rowV s).take k = acc at *
      generalize s.toNat / 2 ^ k = nk at *
      generalize s.toNat.testBit k = q at *
      go_wp2_with (at_builtin; refine wpList_append_own _ rfl _ _ 44 rfl w.heap.size 4 i1 _ 1 1 Tryd.underlying44 hi1 hy0 hy1 hy2 rfl (by decide) _ _ _ rfl (hown2.out.alloc _) ⟨wr.heap.size, 0, none⟩ 1 1 [Value.bool q] rfl rfl ?d1 ?d2 ?d3 ?d4 ?d5 ?_)
      case d1 => exact bit_cells wr q _
      case d2 => exact bit_one q
      case d3 => have := Hlen.out; unfold maxLen; omega
      case d4 => have := Hlen.out; omega
      case d5 => have := Hlen.out; simp; omega
      intro v' w5 hown5 hgrow _
      have Hown5 := Lib.hid hown5
      have hb5 : Below w.heap.size w w5 := (hbel2.out.alloc hz _).grown hgrow (by simp; omega) (fun k hk => (hown2.out.lt k hk).1)
      have HB5 := Lib.hid hb5
      clear hown5 hgrow hb5
      go_wp2_with fail
      go_roundw
      case rel => exact ⟨k + 1, by omega, by go_num, by rw [← HDiv.out]; rfl, Lib.hid (by unfold OwnB; rw [HTk2.out]; simpa using Hown5.out), HB5⟩
      case measure => simp [intOf]; omega
    · obtain rfl : k = 32 := by omega
      have HO2 : Hid (OwnB wr w.heap.size u3 (rowV s)) := Lib.hid (by have := hown2.out; rwa [List.take_of_length_le (by rw [rowV_length]; omega)] at this)
      clear hown2
      go_wp2_with fail
      go_ret
      exact ⟨_, rfl, HO2.out, hbel2.out⟩
set_option maxHeartbeats 4000000 in
theorem rnumber_calls (A : Option Addr) (c : Nat) (l : List Bool) (w : World) (hl : l.length = 32) (hR : RdV Value.bool w A l) :
    Calls Tryd.prog 21 #[.slice A 32 c] w fun e w' => e = .returned (.int .u32 (numL l : Int)) ∧ w' = w := by
  obtain ⟨g, o, rfl, hg, hc⟩ := hR (by omega)
  have HC := Lib.hid hc
  clear hc hR
  go_enter Tryd.func21, Tryd.ntmps21
  go_wp2_with fail
  go_loopw [3, 4] (fun v3 v4 wr => ∃ k : Nat, k ≤ 32 ∧ v4 = .int .i64 ((k : Int) - 1) ∧ v3 = .int .u32 (numL (l.drop k) : Int) ∧ wr = w) (fun _ v4 _ => (intOf v4 + 1).toNat)
  case atStart => exact ⟨32, Nat.le_refl _, rfl, by rw [List.drop_of_length_le (by omega)]; rfl, rfl⟩
  case round =>
    obtain ⟨k, hk, rfl, rfl, rfl⟩ := hrel
    cases k with
    | zero =>
      rw [List.drop_zero]
      clear HC
      go_wp2_with fail
      go_ret
      exact ⟨rfl, rfl⟩
    | succ k =>
      have HD := Lib.hid (numL_drop (l := l) (k := k) (by omega))
      have hlt : numL (l.drop (k + 1)) < 2 ^ 31 := Nat.lt_of_lt_of_le (numL_lt _) (Nat.pow_le_pow_right (by decide) (by rw [List.length_drop]; omega))
      have c0 : wr.cell? ⟨g, o + k, none⟩ = some (.bool (l.getD k false)) := HC.out k _ (by rw [List.getD_eq_getElem?_getD, List.getElem?_eq_getElem (by omega)]; rfl)
      have hk1 : (((k + 1 : Nat) : Int) - 1) = (k : Int) := by omega
      rw [hk1]
      generalize l.getD k false = q at *
      generalize numL (l.drop (k + 1)) = n at *
      have hw1 : IntKind.u32.wrap ((n : Int) * 2) = (n : Int) * 2 := by rw [IntKind.wrap_u32]; omega
      have hw2 : IntKind.u32.wrap ((n : Int) * 2 + 1) = (n : Int) * 2 + 1 := by rw [IntKind.wrap_u32]; omega
      cases q
      · go_wp2_with fail
        go_roundw
        case rel => exact ⟨k, by omega, by go_num, by rw [HD.out]; congr 1; simp [Int.mul_comm], trivial⟩
        case measure => simp [intOf]
      · go_wp2_with fail
        go_roundw
        case rel => exact ⟨k, by omega, by go_num, by rw [HD.out]; congr 1; simp [Int.mul_comm], trivial⟩
        case measure => simp [intOf]
end Go.Proofs.YtonjlkakbboplaaDoor
