/-
  Package sum: a polynomial times another one, and what is shifted (layer 9).
-/
import Derived.Test.YtonjlkakbboplaaDoorSumD
import Derived.OwnWalk
import Derived.IntWalk
namespace Go.Proofs.YtonjlkakbboplaaDoor
open Go Go.RowKit
set_option maxRecDepth 100000

set_option maxHeartbeats 4000000 in
theorem times_calls (a b : BitVec 32) (w : World) :
    Calls Tryd.prog 23 #[.int .u32 (a.toNat : Int), .int .u32 (b.toNat : Int)] w fun e w' => e = .returned (.int .u32 ((mulP b a).toNat : Int)) ∧ w' = w := by
  have Hdone := Lib.hid (show mulP b a = mulK b a 32 from rfl)
  go_enter Tryd.func23, Tryd.ntmps23
  go_wp2_with fail
  go_loopw [0, 5, 6, 7] (fun v0 v5 v6 v7 wr => ∃ k : Nat, k ≤ 32 ∧ v7 = .int .i64 (k : Int) ∧ v0 = .int .u32 ((stpN k a).toNat : Int) ∧ v5 = .int .u32 ((mulK b a k).toNat : Int) ∧ wr = w) (fun _ _ _ v7 _ => 32 - (intOf v7).toNat)
  case atStart => exact ⟨0, Nat.zero_le _, rfl, rfl, rfl, rfl⟩
  case round =>
    obtain ⟨k, hk, rfl, rfl, rfl, rfl⟩ := hrel
    by_cases hlt : k < 32
    · have hkl : (k : Int) < 32 := by omega
      have HM := Lib.hid (mulK_s b a k)
      have HS := Lib.hid (stpN_succ k a)
      obtain ⟨j, hj⟩ : ∃ j, 31 - k = j := ⟨_, rfl⟩
      rw [hj] at HM
      have hsub : IntKind.i64.wrap (31 - (k : Int)) = (j : Int) := by rw [IntWalk.i64_in _ (by omega)]; omega
      have hbit : (bits .and .u32 ((b.toNat : Int) / 2 ^ min j 32) 1 == 1) = b.getLsbD j := by rw [Nat.min_eq_left (by omega)]; exact u32_bit b j
      clear hj
      generalize hp : mulK b a (k + 1) = p' at *
      have HPr := Lib.hid hp
      clear hp
      generalize mulK b a k = p at *
      generalize stpN k a = s at *
      have hxp := u32_xor_bv p s
      have hlow := u32_low s
      have hst : stp s = if s.getLsbD 0 then (s >>> 1) ^^^ 0xEDB88320#32 else s >>> 1 := rfl
      have hshr : (s.toNat : Int) / (2 : Int) = ((s >>> 1).toNat : Int) := u32_shr1 s
      have hand : bits .and .u32 (s.toNat : Int) 1 = if s.getLsbD 0 then 1 else 0 := by
        rw [show (1 : Int) = ((1 : Nat) : Int) from rfl, u32_and_nat _ _ s.isLt (by decide), Nat.and_one_is_mod]
        rw [show (1 : Int) = ((1 : Nat) : Int) from rfl, u32_and_nat _ _ s.isLt (by decide), Nat.and_one_is_mod] at hlow
        cases hq : s.getLsbD 0
        · rw [hq] at hlow
          have := beq_eq_false_iff_ne.1 hlow
          simp
          omega
        · rw [hq] at hlow
          have := beq_iff_eq.1 hlow
          simp
          omega
      have hxs : bits .xor .u32 ((s.toNat : Int) / 2) (bits .and .u32 (s.toNat : Int) 1 * 3988292384 % 4294967296) = ((stp s).toNat : Int) := by
        rw [hshr, hand, hst]
        cases s.getLsbD 0
        · rw [if_neg (by simp), if_neg (by simp)]
          have := u32_xor_bv (s >>> 1) 0#32
          rw [BitVec.xor_zero] at this
          exact this
        · rw [if_pos rfl, if_pos rfl]
          exact u32_xor_bv (s >>> 1) 0xEDB88320#32
      clear hlow hst hshr hand
      generalize stp s = s' at *
      cases hq : b.getLsbD j
      · rw [hq] at hbit
        have hM2 := HM.out
        rw [hq, if_neg (by simp)] at hM2
        clear HM hxp hq
        subst hM2
        go_wp2_with fail
        go_roundw
        case rel => exact ⟨k + 1, by omega, by go_num, by rw [HS.out], by rw [HPr.out], trivial⟩
        case measure => simp [intOf]; omega
      · rw [hq] at hbit
        have hM2 := HM.out
        rw [hq, if_pos rfl] at hM2
        rw [← hM2] at hxp
        clear HM hM2 hq
        go_wp2_with fail
        go_roundw
        case rel => exact ⟨k + 1, by omega, by go_num, by rw [HS.out], by rw [HPr.out], trivial⟩
        case measure => simp [intOf]; omega
    · obtain rfl : k = 32 := by omega
      rw [← Hdone.out]
      go_wp2_with fail
      go_ret
      exact ⟨rfl, rfl⟩
set_option maxHeartbeats 2000000 in
theorem isShift_calls (n : Int) (w : World) :
    Calls Tryd.prog 22 #[.int .i64 n] w fun e w' => e = .returned (.bool (decide (0 ≤ n ∧ n ≤ 1048576))) ∧ w' = w := by
  go_enter Tryd.func22, Tryd.ntmps22
  by_cases h1 : 0 ≤ n
  · by_cases h2 : n ≤ 1048576
    · rw [decide_eq_true ⟨h1, h2⟩]
      go_wp2_with fail
      go_ret
      exact ⟨rfl, rfl⟩
    · rw [decide_eq_false (fun h => h2 h.2)]
      go_wp2_with fail
      go_ret
      exact ⟨rfl, rfl⟩
  · rw [decide_eq_false (fun h => h1 h.1)]
    go_wp2_with fail
    go_ret
    exact ⟨rfl, rfl⟩
set_option maxHeartbeats 4000000 in
theorem sshift_calls (s : BitVec 32) (n : Int) (w : World) (ht : Lays w) :
    Calls Tryd.prog 15 #[.int .u32 (s.toNat : Int), .int .i64 n] w fun e w' => e = .returned (.int .u32 ((shfI s n).toNat : Int)) ∧ Below w.heap.size w w' := by
  have HI := Lib.hid (isShift_calls n w)
  have HP := Lib.hid ht.2
  clear ht
  go_enter Tryd.func15, Tryd.ntmps15
  by_cases h1 : 0 ≤ n ∧ n ≤ 1048576
  · rw [decide_eq_true h1] at HI
    obtain ⟨m, rfl⟩ : ∃ m : Nat, n = (m : Int) := ⟨n.toNat, by omega⟩
    have hsh : shfI s (m : Int) = shK s m 21 := by unfold shfI; rw [if_neg (by omega), shK_all s m (by omega)]; rfl
    rw [hsh]
    clear hsh
    go_wp2_with fail
    refine HI.out.mono ?_
    rintro _ w1 ⟨rfl, rfl⟩
    clear HI
    go_wp2_with fail
    go_loopw [0, 5, 9] (fun v0 v5 v9 wr => ∃ k : Nat, k ≤ 21 ∧ v9 = .int .i64 (k : Int) ∧ v0 = .int .u32 ((shK s m k).toNat : Int) ∧ wr = w1) (fun _ _ v9 _ => 21 - (intOf v9).toNat)
    case atStart => exact ⟨0, Nat.zero_le _, rfl, by rw [shK_z], rfl⟩
    case round =>
      obtain ⟨k, hk, rfl, rfl, rfl⟩ := hrel
      by_cases hlt : k < 21
      · have hkl : (k : Int) < 21 := by omega
        have HS := Lib.hid (shK_s s m k)
        have hbit := i64_bit m k
        have hcell := HP.out k hlt
        cases hq : m.testBit k
        · rw [hq] at hbit
          have hS2 := HS.out
          rw [hq, if_neg (by simp)] at hS2
          clear HS hq hcell
          go_wp2_with fail
          go_roundw
          case rel => exact ⟨k + 1, by omega, by go_num, by rw [hS2], trivial⟩
          case measure => simp [intOf]; omega
        · rw [hq] at hbit
          have hS2 := HS.out
          rw [hq, if_pos rfl] at hS2
          clear HS hq
          have HT := Lib.hid (times_calls (shK s m k) (xN (2 ^ k)) wr)
          rw [← hS2] at HT
          clear hS2
          generalize hp : shK s m (k + 1) = s' at *
          have HPr := Lib.hid hp
          clear hp
          generalize shK s m k = q at *
          generalize xN (2 ^ k) = x at *
          go_wp2_with fail
          refine HT.out.mono ?_
          rintro _ w2 ⟨rfl, rfl⟩
          go_wp2_with fail
          go_roundw
          case rel => exact ⟨k + 1, by omega, by go_num, by rw [HPr.out], trivial⟩
          case measure => simp [intOf]; omega
      · obtain rfl : k = 21 := by omega
        go_wp2_with fail
        go_ret
        exact ⟨rfl, Below.refl _ _⟩
  · rw [decide_eq_false h1] at HI
    have hsh : shfI s n = 0#32 := by unfold shfI; rw [if_pos (by omega)]
    rw [hsh]
    go_wp2_with fail
    refine HI.out.mono ?_
    rintro _ w1 ⟨rfl, rfl⟩
    clear HI
    go_wp2_with fail
    go_ret
    exact ⟨rfl, Below.refl _ _⟩
set_option maxHeartbeats 4000000 in
theorem sjoin_calls (a b : BitVec 32) (n : Int) (w : World) (ht : Lays w) :
    Calls Tryd.prog 14 #[.int .u32 (a.toNat : Int), .int .u32 (b.toNat : Int), .int .i64 n] w fun e w' => e = .returned (.int .u32 ((joinI a b n).toNat : Int)) ∧ Below w.heap.size w w' := by
  have HI := Lib.hid (isShift_calls n w)
  have HSh := Lib.hid (sshift_calls a n w ht)
  clear ht
  go_enter Tryd.func14, Tryd.ntmps14
  by_cases h1 : 0 ≤ n ∧ n ≤ 1048576
  · rw [decide_eq_true h1] at HI
    have hj : joinI a b n = shfI a n ^^^ b := by unfold joinI shfI; rw [if_neg (by omega), if_neg (by omega)]
    have hxo := u32_xor_bv (shfI a n) b
    rw [← hj] at hxo
    clear hj h1
    generalize joinI a b n = j at *
    generalize shfI a n = s at *
    go_wp2_with fail
    refine HI.out.mono ?_
    rintro _ w1 ⟨rfl, rfl⟩
    go_wp2_with fail
    refine HSh.out.mono ?_
    rintro _ w2 ⟨rfl, hb2⟩
    go_wp2_with fail
    go_ret
    exact ⟨rfl, hb2⟩
  · rw [decide_eq_false h1] at HI
    have hj : joinI a b n = 0#32 := by unfold joinI; rw [if_pos (by omega)]
    rw [hj]
    go_wp2_with fail
    refine HI.out.mono ?_
    rintro _ w1 ⟨rfl, rfl⟩
    clear HI HSh
    go_wp2_with fail
    go_ret
    exact ⟨rfl, Below.refl _ _⟩
end Go.Proofs.YtonjlkakbboplaaDoor
