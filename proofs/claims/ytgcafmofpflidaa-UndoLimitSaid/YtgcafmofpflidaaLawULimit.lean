/-
  The walk of UndoLimit.
-/
import Derived.Test.YtgcafmofpflidaaUAlive
import Derived.Lib.MinMax
namespace Go.Proofs.Ytgcafmofpflidaa
open Go Go.RowKit
set_option maxRecDepth 100000

theorem lastN_snoc {α : Type} (n : Nat) (hn : 1 ≤ n) (l : List α) (x : α) : lastN n (lastN n l ++ [x]) = lastN n (l ++ [x]) := by
  unfold lastN
  by_cases h : l.length ≤ n
  · rw [show l.length - n = 0 by omega, List.drop_zero]
  · rw [List.length_append, List.length_append, List.length_drop, List.length_singleton, show l.length - (l.length - n) + 1 - n = 1 by omega, List.drop_append_of_le_length (by rw [List.length_drop]; omega), List.drop_drop, List.drop_append_of_le_length (by omega), show l.length - n + 1 = l.length + 1 - n by omega]
def upsU (k : Nat) : List Int := (List.range k).map fun (j : Nat) => (j : Int)
theorem upsU_length (k : Nat) : (upsU k).length = k := by simp [upsU]
theorem upsU_succ (k : Nat) : upsU (k + 1) = upsU k ++ [(k : Int)] := by simp [upsU, List.range_succ]
/-- The log behind k states, each in a group of its own. -/
def limU (lim k : Nat) : LS Int := ⟨lim, lastN lim (upsU k), (k : Int), [], 0⟩
theorem limU_does (lim k : Nat) (hl : 1 ≤ lim) : (limU lim k).does ((k : Int) + 1) 0 = limU lim (k + 1) := by
  unfold LS.does
  rw [if_neg (show ¬ (k : Int) + 1 = (limU lim k).now by show ¬ (k : Int) + 1 = (k : Int); omega)]
  show (⟨lim, if (0 : Int) ≤ 0 ∨ _ then lastN lim (lastN lim (upsU k) ++ [(k : Int)]) else _, (k : Int) + 1, [], if (0 : Int) < 0 then 0 else 0⟩ : LS Int) = _
  rw [if_pos (.inl (Int.le_refl 0)), lastN_snoc lim hl, ← upsU_succ, if_neg (by omega)]
  rfl
theorem limU_back (lim k : Nat) : (limU lim k).back.length = min lim k := by show (lastN lim (upsU k)).length = _; rw [lastN_length, upsU_length]
theorem limU_now (lim N k : Nat) (hk : k < min lim N) : ((limU lim N).undos (k + 1)).now = (N : Int) - 1 - (k : Int) := by
  have hb := limU_back lim N
  have h1 := LS.undos_now (limU lim N) k (by rw [hb]; exact hk)
  have h2 : (lastN lim (upsU N))[(limU lim N).back.length - (k + 1)]? = some ((limU lim N).undos (k + 1)).now := by
    rw [h1]
    exact List.getElem?_eq_getElem _
  rw [hb] at h2
  unfold lastN at h2
  rw [List.getElem?_drop, upsU_length] at h2
  unfold upsU at h2
  rw [List.getElem?_map, List.getElem?_range (by omega)] at h2
  simp only [Option.map_some, Option.some.injEq] at h2
  rw [← h2]
  omega
theorem limU_some (lim N k : Nat) (hk : k < min lim N) : ((limU lim N).undos k).back ≠ [] := by
  have hb := limU_back lim N
  rw [LS.undos_back _ k (by omega)]
  intro h
  have := congrArg List.length h
  rw [List.length_take] at this
  simp at this
  omega
theorem limU_none (lim N : Nat) : ((limU lim N).undos (min lim N)).back = [] := by
  have hb := limU_back lim N
  rw [LS.undos_back _ _ (by omega), hb, Nat.sub_self, List.take_zero]

set_option maxHeartbeats 8000000 in
theorem ulimit_calls (n m : Int) (w : World) :
    Calls Try.prog 7 #[.int .i64 n, .int .i64 m] w fun e w' => e = .returned (.bool true) ∧ Below w.heap.size w w' := by
  by_cases hf : m < 0
  · have hlt : decide (m < 0) = true := decide_eq_true hf
    go_enter Try.func7, Try.ntmps7
    go_wp2_with fail
    refine (ualive_calls w).mono ?_
    rintro e w9 ⟨rfl, hb9⟩
    have HB9 := Lib.hid hb9
    clear hb9
    go_wp2
    go_ret
    exact ⟨rfl, HB9.out⟩
  by_cases hf2 : 400 < m
  · have hlt : decide (m < 0) = false := decide_eq_false hf
    have hgt : decide (400 < m) = true := decide_eq_true hf2
    go_enter Try.func7, Try.ntmps7
    go_wp2_with fail
    refine (ualive_calls w).mono ?_
    rintro e w9 ⟨rfl, hb9⟩
    have HB9 := Lib.hid hb9
    clear hb9
    go_wp2
    go_ret
    exact ⟨rfl, HB9.out⟩
  have hlt : decide (m < 0) = false := decide_eq_false hf
  have hgt : decide (400 < m) = false := decide_eq_false hf2
  obtain ⟨N, rfl⟩ : ∃ N : Nat, m = (N : Int) := ⟨m.toNat, by omega⟩
  obtain ⟨lim, hlim⟩ : ∃ lim, limL n = lim := ⟨_, rfl⟩
  have hlp : 1 ≤ lim := by rw [← hlim]; exact limL_pos n
  have hl256 : lim ≤ 256 := by rw [← hlim]; exact limL_le n
  have hmm : min (N : Int) (max (min n 256) 1) = ((min lim N : Nat) : Int) := by rw [← hlim]; unfold limL; omega
  have hN : N ≤ 400 := by omega
  go_enter Try.func7, Try.ntmps7
  go_wp2_with fail
  refine (new_callsUI 0 n w).mono ?_
  rintro e w1 ⟨b, rfl, h1⟩
  have H1 : Hid (InUI w w1 b (limU lim 0)) := Lib.hid (by
    have e : LS.new (0 : Int) n = limU lim 0 := by unfold LS.new limU; rw [hlim]; simp [lastN, upsU]
    rw [← e]; exact h1)
  clear h1 hlim
  go_wp2_with fail
  go_loopw [27] (fun v27 wr => ∃ k : Nat, k ≤ N ∧ v27 = .int .i64 (k : Int) ∧ Hid (InUI w wr b (limU lim k))) (fun v27 _ => N - (intOf v27).toNat)
  case atStart => exact ⟨0, Nat.zero_le _, rfl, H1⟩
  case round =>
    obtain ⟨k, hk, rfl, hr⟩ := hrel
    clear H1
    by_cases hkn : k < N
    · have hd := hr.out.step (fun R hR => do_callsUI _ R b _ hR ((k : Int) + 1) 0)
      rw [limU_does lim k hlp, show decide ((k : Int) + 1 ≠ (limU lim k).now) = true from decide_eq_true (by show (k : Int) + 1 ≠ (k : Int); omega)] at hd
      have Hd := Lib.hid hd
      have hw1 : IntKind.i64.wrap ((k : Int) + 1) = (k : Int) + 1 := IntWalk.i64_in _ (by omega)
      have hkn' : (k : Int) < (N : Int) := by omega
      clear hr hd
      go_wp2_with fail
      refine Hd.out.mono ?_
      rintro e w2 ⟨rfl, h2⟩
      have H2 := Lib.hid h2
      clear h2 Hd
      go_wp2_with fail
      go_roundw
      case rel => exact ⟨k + 1, by omega, by go_num, H2⟩
      case measure => simp [intOf]; omega
    · obtain rfl : k = N := by omega
      have hlen := hr.out.read objI (fun R hR => len_callsUI _ R b _ hR)
      rw [limU_back, show (limU lim k).forth.length = 0 from rfl] at hlen
      have Hlen := Lib.hid hlen
      have Hm := Lib.hid (show min lim k = min lim k from rfl)
      have Hnow1 := Lib.hid (limU_now lim k)
      have Hsome := Lib.hid (limU_some lim k)
      have Hnone := Lib.hid (limU_none lim k)
      have hmk : min lim k ≤ k := Nat.min_le_right _ _
      clear hr hlen Hm
      generalize min lim k = M at *
      go_wp2_with fail
      refine Hlen.out.mono ?_
      rintro e w2 ⟨rfl, h2⟩
      have Hn : Hid (Calls Try.prog 25 #[.pointer (some ⟨b, 0, none⟩)] w2 fun e w' => e = .returned (.int .i64 (k : Int)) ∧ InUI w w' b (limU lim k)) := Lib.hid (h2.read objI (fun R hR => now_callsUI _ R b _ hR))
      clear h2 Hlen
      go_wp2_with fail
      refine Hn.out.mono ?_
      rintro e w3 ⟨rfl, h3⟩
      have H3 := Lib.hid h3
      clear h3 Hn
      go_wp2_with fail
      go_loopw [55] (fun v55 wr => ∃ j : Nat, j ≤ M ∧ v55 = .int .i64 (j : Int) ∧ Hid (InUI w wr b ((limU lim k).undos j))) (fun v55 _ => M - (intOf v55).toNat)
      case atStart => exact ⟨0, Nat.zero_le _, rfl, H3⟩
      case round =>
        obtain ⟨j, hj, rfl, hr⟩ := hrel
        clear H3
        by_cases hjm : j < M
        · have hu : Calls Try.prog 26 #[.pointer (some ⟨b, 0, none⟩)] wr fun e w' => e = .returned (.tuple #[.int .i64 ((limU lim k).undos (j + 1)).now, .bool (decide (((limU lim k).undos j).back ≠ []))]) ∧ InUI w w' b ((limU lim k).undos (j + 1)) := hr.out.step (fun R hR => undo_callsUI _ R b _ hR)
          rw [Hnow1.out j hjm, show decide (((limU lim k).undos j).back ≠ []) = true from decide_eq_true (Hsome.out j hjm)] at hu
          have Hu := Lib.hid hu
          have hs1 : IntKind.i64.wrap ((k : Int) - 1) = (k : Int) - 1 := IntWalk.i64_in _ (by omega)
          have hs2 : IntKind.i64.wrap ((k : Int) - 1 - (j : Int)) = (k : Int) - 1 - (j : Int) := IntWalk.i64_in _ (by omega)
          have hjm' : (j : Int) < (M : Int) := by omega
          clear hr hu
          go_wp2_with fail
          refine Hu.out.mono ?_
          rintro e w4 ⟨rfl, h4⟩
          have H4 := Lib.hid h4
          clear h4 Hu
          go_wp2_with fail
          go_roundw
          case rel => exact ⟨j + 1, by omega, by go_num, H4⟩
          case measure => simp [intOf]; omega
        · obtain rfl : j = M := by omega
          have hu := hr.out.step (fun R hR => undo_callsUI _ R b _ hR)
          rw [show decide (((limU lim k).undos j).back ≠ []) = false from decide_eq_false (fun h => h Hnone.out)] at hu
          have Hu := Lib.hid hu
          clear hr hu
          go_wp2_with fail
          refine Hu.out.mono ?_
          rintro e w4 ⟨rfl, h4⟩
          have HB := Lib.hid h4.bel
          clear h4 Hu
          have Hal := Lib.hid (ualive_calls w4)
          go_wp2_with fail
          refine Hal.out.mono ?_
          rintro e w9 ⟨rfl, hb9⟩
          have HB9 : Hid (Below w.heap.size w w9) := Lib.hid (HB.out.trans (hb9.mono HB.out.size))
          clear hb9 Hal
          go_wp2
          go_ret
          exact ⟨rfl, HB9.out⟩
end Go.Proofs.Ytgcafmofpflidaa
