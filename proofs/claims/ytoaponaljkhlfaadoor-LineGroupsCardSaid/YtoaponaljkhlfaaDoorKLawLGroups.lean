/-
  LineGroups (layer 7).
-/
import Derived.Test.YtoaponaljkhlfaaDoorPk35
namespace Go.Proofs.YtoaponaljkhlfaaDoor
open Go Go.RowKit
set_option maxRecDepth 100000

/-- Where a line stands behind k typed signs. -/
structure GrpAt (at_ : Int) (k : Nat) (s : LN) : Prop where
  buf : s.buf = LN.xs k
  lim : s.log.lim = 32
  zero : k = 0 → s.log.opn = 0 ∧ s.log.back.length = 0
  some_ : 0 < k → s.log.opn = 1 ∧ s.log.back.length = if 0 < at_ ∧ at_ < (k : Int) then 2 else 1
theorem GrpAt.new (at_ : Int) : GrpAt at_ 0 LN.new := ⟨rfl, rfl, fun _ => ⟨rfl, rfl⟩, fun h => absurd h (Nat.lt_irrefl 0)⟩
theorem GrpAt.type_ {at_ : Int} {k : Nat} {s : LN} (h : GrpAt at_ k s) (hk : k < 100) (hn : ¬ ((k : Int) = at_ ∧ 0 < k)) : GrpAt at_ (k + 1) (s.key 1 [120]) := by
  obtain ⟨h1, h2, h3, h4⟩ := LN.typ_x h.buf (by omega) h.lim
  refine ⟨h1, h3, fun e => absurd e (by omega), fun _ => ⟨h2, ?_⟩⟩
  rw [h4]
  by_cases h0 : k = 0
  · obtain ⟨z1, z2⟩ := h.zero h0
    rw [z1, if_neg (by decide), z2, if_neg (by omega)]
    rfl
  · obtain ⟨z1, z2⟩ := h.some_ (by omega)
    rw [z1, if_pos rfl, z2]
    by_cases hc : 0 < at_ ∧ at_ < (k : Int)
    · rw [if_pos hc, if_pos (by omega)]
    · rw [if_neg hc, if_neg (by omega)]
theorem GrpAt.moved {at_ : Int} {k : Nat} {s : LN} (h : GrpAt at_ k s) (hk : k < 100) (hn : (k : Int) = at_) (h0 : 0 < k) : GrpAt at_ (k + 1) (((s.key 5 []).key 8 []).key 1 [120]) := by
  obtain ⟨m1, m2, m3, m4⟩ := LN.mv_x h.buf
  obtain ⟨h1, h2, h3, h4⟩ := LN.typ_x m1 (by omega) (m4.trans h.lim)
  refine ⟨h1, h3, fun e => absurd e (by omega), fun _ => ⟨h2, ?_⟩⟩
  obtain ⟨z1, z2⟩ := h.some_ h0
  rw [h4, m2, if_neg (by decide), m3, z2, if_neg (by omega), if_pos (by omega)]
  rfl

set_option maxHeartbeats 8000000 in
theorem lgroups_calls (n at_ : Int) (w : World) (hsp : Spans w) :
    Calls Tryd.prog 5 #[.int .i64 n, .int .i64 at_] w fun e w' => e = .returned (.bool true) ∧ Below w.heap.size w w' := by
  have HS := Lib.hid hsp
  by_cases hn : n < 1 ∨ 100 < n
  · have Hal := Lib.hid (lalive_calls w hsp)
    clear hsp
    by_cases h1 : n < 1
    · have d1 : decide (n < 1) = true := decide_eq_true h1
      clear hn h1
      go_enter Tryd.func5, Tryd.ntmps5
      go_wp2_with fail
      refine Hal.out.mono ?_
      rintro e w2 ⟨rfl, hb⟩
      go_wp2_with fail
      go_ret
      exact ⟨rfl, hb⟩
    · have d1 : decide (n < 1) = false := decide_eq_false h1
      have d2 : decide (100 < n) = true := decide_eq_true (by omega)
      clear hn h1
      go_enter Tryd.func5, Tryd.ntmps5
      go_wp2_with fail
      refine Hal.out.mono ?_
      rintro e w2 ⟨rfl, hb⟩
      go_wp2_with fail
      go_ret
      exact ⟨rfl, hb⟩
  · obtain ⟨N, rfl⟩ : ∃ N : Nat, n = (N : Int) := ⟨n.toNat, by omega⟩
    have hN : 1 ≤ N ∧ N ≤ 100 := by omega
    have d1 : decide ((N : Int) < 1) = false := decide_eq_false (by omega)
    have d2 : decide (100 < (N : Int)) = false := decide_eq_false (by omega)
    clear hsp hn
    go_enter Tryd.func5, Tryd.ntmps5
    go_wp2_with fail
    refine (new_callsL w HS.out).mono ?_
    rintro e w2 ⟨b, rfl, h2⟩
    have H0 : Hid (LnX w w2 (fun _ => False) b LN.new dr0 ds0 1000 1000) := Lib.hid (LnX.start h2 (LN.new_sm 1000))
    have G0 := Lib.hid (GrpAt.new at_)
    clear h2 d1 d2
    go_wp2_with fail
    go_loopw [21] (fun v21 wr => ∃ (k : Nat) (s : LN), k ≤ N ∧ v21 = .int .i64 (k : Int) ∧ Hid (LnX w wr (fun _ => False) b s dr0 ds0 1000 1000) ∧ Hid (GrpAt at_ k s)) (fun v21 _ => N - (intOf v21).toNat)
    case atStart => exact ⟨0, LN.new, Nat.zero_le _, rfl, H0, G0⟩
    case round =>
      clear H0 G0
      obtain ⟨k, s, hk, rfl, HX, HG⟩ := hrel
      by_cases hlt : k < N
      · have hkl : (k : Int) < (N : Int) := by omega
        by_cases hka : (k : Int) = at_ ∧ 0 < k
        · obtain ⟨hk1, hk2⟩ := hka
          have q1 : ((k : Int) == at_) = true := by rw [hk1]; exact beq_self_eq_true _
          have q2 : (0 : Int) < (k : Int) := by omega
          have HM := Lib.hid (HG.out.moved (by omega) hk1 hk2)
          clear hk1
          go_wp2_with fail
          refine (HX.out.line (C' := 1000) (LN.key_sm0 HX.out.sm 5 [] rfl) (fun O F hl => key_callsL wr O F b s hl (spans_below HS.out HX.out.bel) 5 [] (by decide) (HX.out.sm.mono (by decide)))).mono ?_
          rintro e w5 ⟨rfl, hx, _⟩
          have HX5 := Lib.hid hx
          clear hx HX
          go_wp2_with fail
          refine (HX5.out.line (C' := 1000) (LN.key_sm0 HX5.out.sm 8 [] rfl) (fun O F hl => key_callsL w5 O F b _ hl (spans_below HS.out HX5.out.bel) 8 [] (by decide) (HX5.out.sm.mono (by decide)))).mono ?_
          rintro e w6 ⟨rfl, hx, _⟩
          have HX6 := Lib.hid hx
          clear hx HX5
          go_wp2_with fail
          refine (HX6.out.line (C' := 1000) (LN.key_sm0 HX6.out.sm 1 [120] rfl) (fun O F hl => key_callsL w6 O F b _ hl (spans_below HS.out HX6.out.bel) 1 [120] (by decide) (HX6.out.sm.mono (by decide)))).mono ?_
          rintro e w7 ⟨rfl, hx, _⟩
          have HX7 := Lib.hid hx
          clear hx HX6
          go_wp2_with fail
          go_roundw
          case rel => exact ⟨k + 1, _, by omega, by go_num, HX7, HM⟩
          case measure => simp [intOf]; omega
        · have HM := Lib.hid (HG.out.type_ (by omega) hka)
          by_cases hk1 : (k : Int) = at_
          · obtain rfl : k = 0 := by omega
            have q1 : ((0 : Int) == at_) = true := beq_iff_eq.2 (by omega)
            clear hk1 hka
            go_wp2_with fail
            refine (HX.out.line (C' := 1000) (LN.key_sm0 HX.out.sm 1 [120] rfl) (fun O F hl => key_callsL wr O F b s hl (spans_below HS.out HX.out.bel) 1 [120] (by decide) (HX.out.sm.mono (by decide)))).mono ?_
            rintro e w7 ⟨rfl, hx, _⟩
            have HX7 := Lib.hid hx
            clear hx HX
            go_wp2_with fail
            go_roundw
            case rel => exact ⟨0 + 1, _, by omega, by go_num, HX7, HM⟩
            case measure => simp [intOf]; omega
          · have q1 : ((k : Int) == at_) = false := beq_eq_false_iff_ne.2 hk1
            clear hk1 hka
            go_wp2_with fail
            refine (HX.out.line (C' := 1000) (LN.key_sm0 HX.out.sm 1 [120] rfl) (fun O F hl => key_callsL wr O F b s hl (spans_below HS.out HX.out.bel) 1 [120] (by decide) (HX.out.sm.mono (by decide)))).mono ?_
            rintro e w7 ⟨rfl, hx, _⟩
            have HX7 := Lib.hid hx
            clear hx HX
            go_wp2_with fail
            go_roundw
            case rel => exact ⟨k + 1, _, by omega, by go_num, HX7, HM⟩
            case measure => simp [intOf]; omega
      · obtain rfl : k = N := by omega
        clear hlt hk
        obtain ⟨z1, z2⟩ := HG.out.some_ (by omega)
        have hb := HG.out.buf
        have HZ := Lib.hid z2
        have HB := Lib.hid hb
        clear z1 z2 hb HG
        by_cases hc : 0 < at_ ∧ at_ < (k : Int)
        · obtain ⟨c1, c2⟩ := hc
          rw [if_pos ⟨c1, c2⟩] at HZ
          go_wp2_with fail
          refine (HX.out.rd (fun O F hl => undos_callsL wr O F b s hl (spans_below HS.out HX.out.bel))).mono ?_
          rintro e w5 ⟨rfl, hx, hbel⟩
          rw [HZ.out]
          have HX5 := Lib.hid hx
          clear hx hbel HX
          go_wp2_with fail
          refine (lalive_calls w5 (spans_below HS.out HX5.out.bel)).mono ?_
          rintro e w6 ⟨rfl, hb6⟩
          have HX6 := Lib.hid (HX5.out.below hb6)
          clear hb6 HX5
          go_wp2_with fail
          refine (HX6.out.rd (fun O F hl => buf_callsL w6 O F b s hl (spans_below HS.out HX6.out.bel))).mono ?_
          rintro e w7 ⟨rfl, hx, hbel⟩
          have HX7 := Lib.hid hx
          rw [HB.out]
          have hsz := bs_size (LN.xs k).1
          rw [show (LN.xs k).1.length = k from List.length_replicate] at hsz
          have fb := field_buf0 (.string (bs (LN.xs k).1)) (.int .i64 ((LN.xs k).2 : Int))
          clear hx hbel HX6
          go_wp2_with fail
          go_ret
          exact ⟨rfl, HX7.out.bel⟩
        · rw [if_neg hc] at HZ
          by_cases c1 : 0 < at_
          · have c2 : ¬ at_ < (k : Int) := fun e => hc ⟨c1, e⟩
            clear hc
            go_wp2_with fail
            refine (HX.out.rd (fun O F hl => undos_callsL wr O F b s hl (spans_below HS.out HX.out.bel))).mono ?_
            rintro e w5 ⟨rfl, hx, hbel⟩
            rw [HZ.out]
            have HX5 := Lib.hid hx
            clear hx hbel HX
            go_wp2_with fail
            refine (lalive_calls w5 (spans_below HS.out HX5.out.bel)).mono ?_
            rintro e w6 ⟨rfl, hb6⟩
            have HX6 := Lib.hid (HX5.out.below hb6)
            clear hb6 HX5
            go_wp2_with fail
            refine (HX6.out.rd (fun O F hl => buf_callsL w6 O F b s hl (spans_below HS.out HX6.out.bel))).mono ?_
            rintro e w7 ⟨rfl, hx, hbel⟩
            have HX7 := Lib.hid hx
            rw [HB.out]
            have hsz := bs_size (LN.xs k).1
            rw [show (LN.xs k).1.length = k from List.length_replicate] at hsz
            have fb := field_buf0 (.string (bs (LN.xs k).1)) (.int .i64 ((LN.xs k).2 : Int))
            clear hx hbel HX6
            go_wp2_with fail
            go_ret
            exact ⟨rfl, HX7.out.bel⟩
          · clear hc
            go_wp2_with fail
            refine (HX.out.rd (fun O F hl => undos_callsL wr O F b s hl (spans_below HS.out HX.out.bel))).mono ?_
            rintro e w5 ⟨rfl, hx, hbel⟩
            rw [HZ.out]
            have HX5 := Lib.hid hx
            clear hx hbel HX
            go_wp2_with fail
            refine (lalive_calls w5 (spans_below HS.out HX5.out.bel)).mono ?_
            rintro e w6 ⟨rfl, hb6⟩
            have HX6 := Lib.hid (HX5.out.below hb6)
            clear hb6 HX5
            go_wp2_with fail
            refine (HX6.out.rd (fun O F hl => buf_callsL w6 O F b s hl (spans_below HS.out HX6.out.bel))).mono ?_
            rintro e w7 ⟨rfl, hx, hbel⟩
            have HX7 := Lib.hid hx
            rw [HB.out]
            have hsz := bs_size (LN.xs k).1
            rw [show (LN.xs k).1.length = k from List.length_replicate] at hsz
            have fb := field_buf0 (.string (bs (LN.xs k).1)) (.int .i64 ((LN.xs k).2 : Int))
            clear hx hbel HX6
            go_wp2_with fail
            go_ret
            exact ⟨rfl, HX7.out.bel⟩
end Go.Proofs.YtoaponaljkhlfaaDoor
