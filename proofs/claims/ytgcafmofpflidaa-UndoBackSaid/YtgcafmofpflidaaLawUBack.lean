/-
  The walk of UndoBack.
-/
import Derived.Test.YtgcafmofpflidaaUIn
import Derived.Lib.MinMax
namespace Go.Proofs.Ytgcafmofpflidaa
open Go Go.RowKit
set_option maxRecDepth 100000

set_option maxHeartbeats 8000000 in
theorem uback_calls (n : Int) (A : Option Addr) (c : Nat) (os : List OpU) (w : World) (hO : RdU w A os) (hl : os.length ≤ 9223372036854775807) :
    Calls Try.prog 5 #[.int .i64 n, .slice A os.length c] w fun e w' => e = .returned (.bool true) ∧ Below w.heap.size w w' := by
  have Hfew := Lib.hid (few6_calls A c os w hO hl)
  have HO := Lib.hid hO
  clear hO
  generalize hf0 : decide (os.length ≤ 400 ∧ totU os ≤ 8000) = q0 at *
  clear hf0
  cases q0 with
  | false =>
    go_enter Try.func5, Try.ntmps5
    go_wp2_with fail
    refine Hfew.out.mono ?_
    rintro e w1 ⟨rfl, hb1⟩
    have HB1 := Lib.hid hb1
    have Hal := Lib.hid (ualive_calls w1)
    clear hb1 Hfew
    go_wp2_with fail
    refine Hal.out.mono ?_
    rintro e w9 ⟨rfl, hb9⟩
    have HB9 := Lib.hid (HB1.out.trans (hb9.mono HB1.out.size))
    clear hb9 Hal
    go_wp2
    go_ret
    exact ⟨rfl, HB9.out⟩
  | true =>
    go_enter Try.func5, Try.ntmps5
    go_wp2_with fail
    refine Hfew.out.mono ?_
    rintro e w1 ⟨rfl, hb1⟩
    have HB1 := Lib.hid hb1
    clear hb1 Hfew
    go_wp2_with fail
    refine (new_callsUS ⟨#[]⟩ n w1).mono ?_
    rintro e w2 ⟨b0, rfl, h2⟩
    have H2 : Hid (InUS w w2 b0 (LS.new ⟨#[]⟩ n)) := Lib.hid (by
      obtain ⟨R, a1, a2, a3⟩ := h2
      exact ⟨R, a1, fun k hk => Nat.le_trans HB1.out.size (a2 k hk), HB1.out.trans (a3.mono HB1.out.size)⟩)
    clear h2
    go_wp2_with fail
    go_loopw [5, 27] (fun v5 v26 wr => ∃ (k b : Nat) (st : LS ByteArray), k ≤ os.length ∧ v26 = .int .i64 (k : Int) ∧ v5 = .pointer (some ⟨b, 0, none⟩) ∧ Hid (InUS w wr b st)) (fun _ v26 _ => os.length - (intOf v26).toNat)
    case atStart => exact ⟨0, b0, _, Nat.zero_le _, rfl, rfl, H2⟩
    case round =>
      obtain ⟨k, b, st, hk, rfl, rfl, hpr⟩ := hrel
      clear H2
      by_cases hlt : k < os.length
      · obtain ⟨g, og, rfl, hg, e0, e1, e2, _⟩ := (HO.out.below hpr.out.bel).at_ hlt
        have M4 := Bx3.new wr 32 (.int .i64 (os.getD k OpU.none_).k) (.string (os.getD k OpU.none_).t) (.int .i64 (os.getD k OpU.none_).g)
        have m0 := M4.c0
        have m1 := M4.c1
        have m2 := M4.c2
        have hp4 := hpr.out.below objS ((Below.refl _ wr).alloc (Nat.le_refl _) (.cells #[.int .i64 (os.getD k OpU.none_).k, .string (os.getD k OpU.none_).t, .int .i64 (os.getD k OpU.none_).g] 32))
        have Hdo := Lib.hid (inU_does hp4 (os.getD k OpU.none_))
        clear hpr hp4 M4
        generalize os.getD k OpU.none_ = o at *
        have hkl : (k : Int) < (os.length : Int) := by omega
        go_wp2_with fail
        refine Hdo.out.mono ?_
        rintro e w5 ⟨b', rfl, h5⟩
        clear Hdo m0 m1 m2
        generalize doU st o = s2 at *
        generalize didU st o = q1 at *
        have Hn5 := Lib.hid (inU_now h5)
        clear h5
        go_wp2_with fail
        refine Hn5.out.mono ?_
        rintro e w6 ⟨rfl, h6⟩
        have H6 := Lib.hid h6
        clear h6 Hn5
        by_cases hb : s2.back = []
        · have Hu := Lib.hid (inU_undo0 H6.out hb)
          clear hb
          go_wp2_with fail
          refine Hu.out.mono ?_
          rintro e w7 ⟨rfl, h7⟩
          have H7 := Lib.hid h7
          clear h7 Hu
          by_cases hf : (s2).forth = []
          · have Hr8 := Lib.hid (inU_redo0 H7.out hf)
            clear hf
            go_wp2_with fail
            refine Hr8.out.mono ?_
            rintro e w8 ⟨rfl, h8⟩
            have HL8 := Lib.hid h8
            clear h8 Hr8
            go_wp2_with fail
            go_roundw
            case rel => exact ⟨k + 1, b', (s2), by omega, by go_num, rfl, Lib.hid HL8.out⟩
            case measure => simp [intOf]; omega
          · have Hr8 := Lib.hid (inU_redo H7.out hf)
            have HF := Lib.hid hf
            clear hf
            go_wp2_with fail
            refine Hr8.out.mono ?_
            rintro e w8 ⟨rfl, h8⟩
            have Hv8 := Lib.hid (inU_forth h8 HF.out)
            clear h8 Hr8
            go_wp2_with fail
            refine Hv8.out.mono ?_
            rintro e w9 ⟨rfl, h9⟩
            have HL9 := Lib.hid h9
            clear h9 Hv8
            go_wp2_with fail
            go_roundw
            case rel => exact ⟨k + 1, b', (shut (s2)), by omega, by go_num, rfl, Lib.hid HL9.out⟩
            case measure => simp [intOf]; omega
        · have Hu := Lib.hid (inU_undo H6.out hb)
          have HBk := Lib.hid hb
          clear hb
          go_wp2_with fail
          refine Hu.out.mono ?_
          rintro e w7 ⟨rfl, h7⟩
          have Hr := Lib.hid (inU_back h7 HBk.out)
          clear h7 Hu
          go_wp2_with fail
          refine Hr.out.mono ?_
          rintro e w8 ⟨rfl, h8⟩
          have H8 := Lib.hid h8
          clear h8 Hr
          by_cases hf : (shut s2).forth = []
          · have Hr9 := Lib.hid (inU_redo0 H8.out hf)
            clear hf
            go_wp2_with fail
            refine Hr9.out.mono ?_
            rintro e w9 ⟨rfl, h9⟩
            have HL9 := Lib.hid h9
            clear h9 Hr9
            go_wp2_with fail
            go_roundw
            case rel => exact ⟨k + 1, b', (shut s2), by omega, by go_num, rfl, Lib.hid HL9.out⟩
            case measure => simp [intOf]; omega
          · have Hr9 := Lib.hid (inU_redo H8.out hf)
            have HF := Lib.hid hf
            clear hf
            go_wp2_with fail
            refine Hr9.out.mono ?_
            rintro e w9 ⟨rfl, h9⟩
            have Hv9 := Lib.hid (inU_forth h9 HF.out)
            clear h9 Hr9
            rw [show (shut s2).now = s2.now from rfl] at Hv9
            go_wp2_with fail
            refine Hv9.out.mono ?_
            rintro e w10 ⟨rfl, h10⟩
            have HL10 := Lib.hid h10
            clear h10 Hv9
            go_wp2_with fail
            go_roundw
            case rel => exact ⟨k + 1, b', (shut (shut s2)), by omega, by go_num, rfl, Lib.hid HL10.out⟩
            case measure => simp [intOf]; omega
      · obtain rfl : k = os.length := by omega
        have HB := Lib.hid hpr.out.bel
        clear hpr
        have Hal := Lib.hid (ualive_calls wr)
        go_wp2_with fail
        refine Hal.out.mono ?_
        rintro e w9 ⟨rfl, hb9⟩
        have HB9 : Hid (Below w.heap.size w w9) := Lib.hid (HB.out.trans (hb9.mono HB.out.size))
        clear hb9 Hal
        go_wp2
        go_ret
        exact ⟨rfl, HB9.out⟩
end Go.Proofs.Ytgcafmofpflidaa
