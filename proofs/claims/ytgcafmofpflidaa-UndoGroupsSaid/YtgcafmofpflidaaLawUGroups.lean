/-
  The walk of UndoGroups.
-/
import Derived.Test.YtgcafmofpflidaaUIn
import Derived.Lib.MinMax
namespace Go.Proofs.Ytgcafmofpflidaa
open Go Go.RowKit
set_option maxRecDepth 100000

set_option maxHeartbeats 8000000 in
theorem ugroups_calls (x : ByteArray) (A : Option Addr) (c : Nat) (l : List ByteArray) (g : Int) (w : World) (hV : RdV Value.string w A l) (_hS : ∀ s ∈ l, s.size ≤ maxLen) (hl : l.length ≤ 9223372036854775807) :
    Calls Try.prog 6 #[.string x, .slice A l.length c, .int .i64 g] w fun e w' => e = .returned (.bool true) ∧ Below w.heap.size w w' := by
  by_cases hf : 100 < l.length
  · have hgt : decide (100 < (l.length : Int)) = true := decide_eq_true (by omega)
    go_enter Try.func6, Try.ntmps6
    go_wp2_with fail
    refine (ualive_calls w).mono ?_
    rintro e w9 ⟨rfl, hb9⟩
    have HB9 := Lib.hid hb9
    clear hb9
    go_wp2
    go_ret
    exact ⟨rfl, HB9.out⟩
  by_cases hf2 : g < 1
  · have hgt : decide (100 < (l.length : Int)) = false := decide_eq_false (by omega)
    have hlt : decide (g < 1) = true := decide_eq_true hf2
    go_enter Try.func6, Try.ntmps6
    go_wp2_with fail
    refine (ualive_calls w).mono ?_
    rintro e w9 ⟨rfl, hb9⟩
    have HB9 := Lib.hid hb9
    clear hb9
    go_wp2
    go_ret
    exact ⟨rfl, HB9.out⟩
  have hgt : decide (100 < (l.length : Int)) = false := decide_eq_false (by omega)
  have hlt : decide (g < 1) = false := decide_eq_false hf2
  have HV := Lib.hid hV
  clear hV
  go_enter Try.func6, Try.ntmps6
  go_wp2_with fail
  refine (new_callsUS x 9 w).mono ?_
  rintro e w1 ⟨b, rfl, h1⟩
  have H1 : Hid (InUS w w1 b (⟨9, [], x, [], 0⟩ : LS ByteArray)) := Lib.hid h1
  clear h1
  go_wp2_with fail
  go_loopw [8, 29] (fun v8 v29 wr => ∃ (k : Nat) (d : Bool) (st : LS ByteArray), k ≤ l.length ∧ v8 = .bool d ∧ v29 = .int .i64 (k : Int) ∧ Hid (InUS w wr b st) ∧ Hid ((st = (⟨9, [], x, [], 0⟩ : LS ByteArray) ∧ d = false) ∨ (∃ z, st = (⟨9, [x], z, [], g⟩ : LS ByteArray) ∧ d = true))) (fun _ v29 _ => l.length - (intOf v29).toNat)
  case atStart => exact ⟨0, false, _, Nat.zero_le _, rfl, rfl, H1, Lib.hid (.inl ⟨rfl, rfl⟩)⟩
  case round =>
    obtain ⟨k, d, st, hk, rfl, rfl, hin, hst⟩ := hrel
    clear H1
    by_cases hlk : k < l.length
    · obtain ⟨gg, o, rfl, hg, hc⟩ := (HV.out.below hin.out.bel).at_ (by omega)
      have hx : l[k]? = some (l.getD k ⟨#[]⟩) := by rw [List.getD_eq_getElem?_getD, List.getElem?_eq_getElem hlk]; rfl
      have ck := hc _ _ hx
      have hkl : (k : Int) < (l.length : Int) := by omega
      clear hc hx
      generalize l.getD k ⟨#[]⟩ = y at *
      rcases hst.out with ⟨rfl, rfl⟩ | ⟨z, rfl, rfl⟩
      · by_cases hy : y = x
        · have hd := hin.out.step (fun R hR => do_callsUS _ R b _ hR y g)
          rw [show (⟨9, [], x, [], 0⟩ : LS ByteArray).does y g = (⟨9, [], x, [], 0⟩ : LS ByteArray) by unfold LS.does; rw [if_pos hy], show decide (y ≠ (⟨9, [], x, [], 0⟩ : LS ByteArray).now) = false from decide_eq_false (fun h => h hy)] at hd
          have Hd := Lib.hid hd
          clear hin hd hst hy
          go_wp2_with fail
          refine Hd.out.mono ?_
          rintro e w3 ⟨rfl, h3⟩
          have H3 := Lib.hid h3
          clear h3 Hd
          go_wp2_with fail
          go_roundw
          case rel => exact ⟨k + 1, false, (⟨9, [], x, [], 0⟩ : LS ByteArray), by omega, rfl, by go_num, H3, Lib.hid (.inl ⟨rfl, rfl⟩)⟩
          case measure => simp [intOf]; omega
        · have hd := hin.out.step (fun R hR => do_callsUS _ R b _ hR y g)
          rw [show (⟨9, [], x, [], 0⟩ : LS ByteArray).does y g = (⟨9, [x], y, [], g⟩ : LS ByteArray) by unfold LS.does; rw [if_neg (show ¬ y = (⟨9, [], x, [], 0⟩ : LS ByteArray).now from hy)]; unfold LS.put; rw [if_pos (.inr (show g ≠ 0 by omega)), if_pos (show 0 < g by omega), lastN_all (by simp)]; rfl, show decide (y ≠ (⟨9, [], x, [], 0⟩ : LS ByteArray).now) = true from decide_eq_true hy] at hd
          have Hd := Lib.hid hd
          clear hin hd hst hy
          go_wp2_with fail
          refine Hd.out.mono ?_
          rintro e w3 ⟨rfl, h3⟩
          have H3 := Lib.hid h3
          clear h3 Hd
          go_wp2_with fail
          go_roundw
          case rel => exact ⟨k + 1, true, (⟨9, [x], y, [], g⟩ : LS ByteArray), by omega, rfl, by go_num, H3, Lib.hid (.inr ⟨y, rfl, rfl⟩)⟩
          case measure => simp [intOf]; omega
      · by_cases hy : y = z
        · have hd := hin.out.step (fun R hR => do_callsUS _ R b _ hR y g)
          rw [show (⟨9, [x], z, [], g⟩ : LS ByteArray).does y g = (⟨9, [x], z, [], g⟩ : LS ByteArray) by unfold LS.does; rw [if_pos hy], show decide (y ≠ (⟨9, [x], z, [], g⟩ : LS ByteArray).now) = false from decide_eq_false (fun h => h hy)] at hd
          have Hd := Lib.hid hd
          clear hin hd hst hy
          go_wp2_with fail
          refine Hd.out.mono ?_
          rintro e w3 ⟨rfl, h3⟩
          have H3 := Lib.hid h3
          clear h3 Hd
          go_wp2_with fail
          go_roundw
          case rel => exact ⟨k + 1, true, (⟨9, [x], z, [], g⟩ : LS ByteArray), by omega, rfl, by go_num, H3, Lib.hid (.inr ⟨z, rfl, rfl⟩)⟩
          case measure => simp [intOf]; omega
        · have hd := hin.out.step (fun R hR => do_callsUS _ R b _ hR y g)
          rw [show (⟨9, [x], z, [], g⟩ : LS ByteArray).does y g = (⟨9, [x], y, [], g⟩ : LS ByteArray) by unfold LS.does; rw [if_neg (show ¬ y = (⟨9, [x], z, [], g⟩ : LS ByteArray).now from hy)]; unfold LS.put; rw [if_neg (show ¬ (g ≤ 0 ∨ g ≠ g) by rintro (h | h); omega; exact h rfl), if_pos (show 0 < g by omega)], show decide (y ≠ (⟨9, [x], z, [], g⟩ : LS ByteArray).now) = true from decide_eq_true hy] at hd
          have Hd := Lib.hid hd
          clear hin hd hst hy
          go_wp2_with fail
          refine Hd.out.mono ?_
          rintro e w3 ⟨rfl, h3⟩
          have H3 := Lib.hid h3
          clear h3 Hd
          go_wp2_with fail
          go_roundw
          case rel => exact ⟨k + 1, true, (⟨9, [x], y, [], g⟩ : LS ByteArray), by omega, rfl, by go_num, H3, Lib.hid (.inr ⟨y, rfl, rfl⟩)⟩
          case measure => simp [intOf]; omega
    · obtain rfl : k = l.length := by omega
      rcases hst.out with ⟨rfl, rfl⟩ | ⟨z, rfl, rfl⟩
      · have hlen : Calls Try.prog 21 #[.pointer (some ⟨b, 0, none⟩)] wr fun e w' => e = .returned (.tuple #[.int .i64 0, .int .i64 0]) ∧ InUS w w' b (⟨9, [], x, [], 0⟩ : LS ByteArray) := hin.out.read objS (fun R hR => len_callsUS _ R b _ hR)
        have Hlen := Lib.hid hlen
        clear hin hlen
        go_wp2_with fail
        refine Hlen.out.mono ?_
        rintro e w3 ⟨rfl, h3⟩
        have hu : Calls Try.prog 17 #[.pointer (some ⟨b, 0, none⟩)] w3 fun e w' => e = .returned (.tuple #[.string x, .bool false]) ∧ InUS w w' b ((⟨9, [], x, [], 0⟩ : LS ByteArray)).undo := h3.step (fun R hR => undo_callsUS _ R b _ hR)
        have Hu := Lib.hid hu
        clear h3 hu Hlen
        go_wp2_with fail
        refine Hu.out.mono ?_
        rintro e w4 ⟨rfl, h4⟩
        have HB := Lib.hid h4.bel
        clear h4 Hu
        have Hal := Lib.hid (ualive_calls w4)
        go_wp2_with fail
        refine Hal.out.mono ?_
        rintro e w9 ⟨rfl, hb9⟩
        have HB9 : Hid (Below w.heap.size w w9) := Lib.hid (HB.out.trans (hb9.mono HB.out.size))
        clear hb9 Hal
        go_wp2
        go_ret
        exact ⟨rfl, HB9.out⟩
      · have hlen : Calls Try.prog 21 #[.pointer (some ⟨b, 0, none⟩)] wr fun e w' => e = .returned (.tuple #[.int .i64 1, .int .i64 0]) ∧ InUS w w' b (⟨9, [x], z, [], g⟩ : LS ByteArray) := hin.out.read objS (fun R hR => len_callsUS _ R b _ hR)
        have Hlen := Lib.hid hlen
        clear hin hlen
        go_wp2_with fail
        refine Hlen.out.mono ?_
        rintro e w3 ⟨rfl, h3⟩
        have hu : Calls Try.prog 17 #[.pointer (some ⟨b, 0, none⟩)] w3 fun e w' => e = .returned (.tuple #[.string x, .bool true]) ∧ InUS w w' b ((⟨9, [x], z, [], g⟩ : LS ByteArray)).undo := h3.step (fun R hR => undo_callsUS _ R b _ hR)
        have Hu := Lib.hid hu
        clear h3 hu Hlen
        go_wp2_with fail
        refine Hu.out.mono ?_
        rintro e w4 ⟨rfl, h4⟩
        have HB := Lib.hid h4.bel
        clear h4 Hu
        have Hal := Lib.hid (ualive_calls w4)
        go_wp2_with fail
        refine Hal.out.mono ?_
        rintro e w9 ⟨rfl, hb9⟩
        have HB9 : Hid (Below w.heap.size w w9) := Lib.hid (HB.out.trans (hb9.mono HB.out.size))
        clear hb9 Hal
        go_wp2
        go_ret
        exact ⟨rfl, HB9.out⟩
end Go.Proofs.Ytgcafmofpflidaa
