/-
  The document's row and number (layer 9).
-/
import Derived.Test.YtjfikdldabmciaaDoorRBits
namespace Go.Proofs.YtjfikdldabmciaaDoor
open Go Go.RowKit
set_option maxRecDepth 100000

theorem rowV_take (s : BitVec 32) {k : Nat} (hk : k < 32) : (rowV s).take (k + 1) = (rowV s).take k ++ [s.toNat.testBit k] := by
  rw [List.take_add_one]
  congr 1
  unfold rowV
  simp [hk, BitVec.getLsbD]
theorem numL_lt : ∀ l : List Bool, numL l < 2 ^ l.length
  | [] => by decide
  | c :: l => by
    have := numL_lt l
    unfold numL
    rw [List.length_cons, Nat.pow_succ]
    have : c.toNat ≤ 1 := Bool.toNat_le c
    omega
theorem numL_drop {l : List Bool} {k : Nat} (hk : k < l.length) : numL (l.drop k) = 2 * numL (l.drop (k + 1)) + (l.getD k false).toNat := by
  rw [List.drop_eq_getElem_cons hk, List.getD_eq_getElem?_getD, List.getElem?_eq_getElem hk]
  rfl
set_option maxHeartbeats 4000000 in
theorem rnumber_calls (A : Option Addr) (c : Nat) (l : List Bool) (w : World) (hl : l.length = 32) (hR : RdV Value.bool w A l) :
    Calls Tryd.prog 31 #[.slice A 32 c] w fun e w' => e = .returned (.int .u32 (numL l : Int)) ∧ w' = w := by
  obtain ⟨g, o, rfl, hg, hc⟩ := hR (by omega)
  have HC := Lib.hid hc
  clear hc hR
  go_enter Tryd.func31, Tryd.ntmps31
  go_wp2_with fail
  go_loopw [3, 4] (fun v3 v4 wr => ∃ k : Nat, k ≤ 32 ∧ v4 = .int .i64 ((k : Int) - 1) ∧ v3 = .int .u32 (numL (l.drop k) : Int) ∧ wr = w) (fun _ v4 _ => (intOf v4 + 1).toNat)
  case atStart => exact ⟨32, Nat.le_refl _, rfl, by rw [List.drop_of_length_le (by omega)]; rfl, rfl⟩
  case round =>
    obtain ⟨k, hk, rfl, rfl, rfl⟩ := hrel
    cases k with
    | zero =>
      rw [List.drop_zero]
      clear HC
      go_wp2_with fail
      go_ret
      exact ⟨rfl, rfl⟩
    | succ k =>
      have HD := Lib.hid (numL_drop (l := l) (k := k) (by omega))
      have hlt : numL (l.drop (k + 1)) < 2 ^ 31 := Nat.lt_of_lt_of_le (numL_lt _) (Nat.pow_le_pow_right (by decide) (by rw [List.length_drop]; omega))
      have c0 : wr.cell? ⟨g, o + k, none⟩ = some (.bool (l.getD k false)) := HC.out k _ (by rw [List.getD_eq_getElem?_getD, List.getElem?_eq_getElem (by omega)]; rfl)
      have hk1 : (((k + 1 : Nat) : Int) - 1) = (k : Int) := by omega
      rw [hk1]
      generalize l.getD k false = q at *
      generalize numL (l.drop (k + 1)) = n at *
      have hw1 : IntKind.u32.wrap ((n : Int) * 2) = (n : Int) * 2 := by rw [IntKind.wrap_u32]; omega
      have hw2 : IntKind.u32.wrap ((n : Int) * 2 + 1) = (n : Int) * 2 + 1 := by rw [IntKind.wrap_u32]; omega
      cases q
      · go_wp2_with fail
        go_roundw
        case rel => exact ⟨k, by omega, by go_num, by rw [HD.out]; congr 1; simp [Int.mul_comm], trivial⟩
        case measure => simp [intOf]
      · go_wp2_with fail
        go_roundw
        case rel => exact ⟨k, by omega, by go_num, by rw [HD.out]; congr 1; simp [Int.mul_comm], trivial⟩
        case measure => simp [intOf]
end Go.Proofs.YtjfikdldabmciaaDoor
