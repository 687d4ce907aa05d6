/-
  Layer 7 and what it stands on, part 31 (LnH).
-/
import Derived.Test.YtoaponaljkhlfaaDoorPk30
import Derived.Deep.RegionHeld3
namespace Go.Proofs.YtoaponaljkhlfaaDoor
section
open Go Go.RowKit
set_option maxRecDepth 100000
section
variable (w : World) (O F : Nat → Prop) (b : Nat) (s : LN)
set_option maxHeartbeats 4000000 in
theorem act_sign (k0 : Int) (t : List UInt8) (ht : t.length ≤ 100000) (h : LineL w O F b s) (hsp : Spans w) :
    Calls Tryd.prog 40 #[.pointer (some ⟨b, 0, none⟩), .agg #[.int .i64 k0, .string (bs t)]] w fun e w' => e = .returned (dV .none) ∧ ToLn w O F w' b ⟨ if fits s.buf (plainL t) then wrG s.log (insB s.buf (plainL t)) (if wordT t then 1 else 0) else s.log, s.ring, s.last⟩ := by
  obtain ⟨W2, hW2, hB2, hs2, hk2, hd2⟩ := boxesA w k0 (bs t)
  have HB2 := Lib.hid hB2
  have HN2 := Lib.hid hs2
  have HD2 := Lib.hid hd2
  have H := Lib.hid h
  have H2 := Lib.hid (objLn.below h hB2)
  have HS := Lib.hid hsp
  have hrt := (line_ok h).rt.1
  have hl6 : s.buf.1.length ≤ 137438953472 := Nat.le_trans hrt.2.1 (by decide)
  have hp6 : t.length ≤ 137438953472 := Nat.le_trans ht (by decide)
  have e1 : mS s.buf.1 = s.buf.1 := hrt.make.1
  have e2 : mA s.buf.1 s.buf.2 = s.buf.2 := hrt.make.2
  have HSS : Hid (∀ W, Below W2.heap.size W2 W → W.cell? ⟨w.heap.size, 1, none⟩ = some (.string (bs t))) := Lib.hid (fun W hW => (hk2.below hW).c1)
  have kc1 := hk2.c1
  by_cases hfit : fits s.buf (plainL t)
  · rw [if_pos hfit]
    by_cases hword : wordT t = true
    · rw [hword, if_pos rfl]
      have HI : Hid (∀ W, Spans W → Calls Tryd.prog 37 #[.agg #[.string (bs s.buf.1), .int .i64 (s.buf.2 : Int)], .string (bs t)] W fun e w' => e = .returned (.tuple #[.agg #[.string (bs (insB s.buf (plainL t)).1), .int .i64 ((insB s.buf (plainL t)).2 : Int)], .int .i64 0]) ∧ Below W.heap.size W w') := Lib.hid (fun W hS => by
        have := insert_ok s.buf.1 t s.buf.2 hl6 hp6 W hS (by rw [e1]; exact hfit)
        rwa [e1, e2] at this)
      have HR : Hid (Rt (insB s.buf (plainL t)).1 (insB s.buf (plainL t)).2) := Lib.hid (LN.insB_rt (line_ok h).rt.1 (plain_P t) hfit)
      have g1 : ((0 : Int) != 0) = false := rfl
      have HWd := Lib.hid (fun W hS => word_callsL t ht W hS)
      rw [hword] at HWd
      clear h hsp hB2 hs2 hk2 hd2 hrt hl6 hp6 e1 e2 hfit hword
      generalize insB s.buf (plainL t) = x at *
      go_enter Tryd.func40, Tryd.ntmps40
      go_upto_region 1 with fail
      go_cut [5, 6] from 7 (fun s5 s6 wc => ∃ K, s5 = .pointer (some ⟨K, 0, none⟩) ∧ s6 = .int .i64 0 ∧ Below W2.heap.size W2 wc ∧ Bx wc K 23 (.string (bs x.1)) (.int .i64 (x.2 : Int)) ∧ W2.heap.size ≤ K)
      case first =>
        have HBd : Hid (Below W2.heap.size W2 W2.drew) := Lib.hid (Below.refl _ W2).drew
        refine wp_region_last (S := (fun w' => w'.cell? ⟨w.heap.size, 1, none⟩ = some (.string (bs t)))) 10 (by kernel_rfl) kc1 (fun hHeld => ?_)
        refine lastAny_take (i := 0) (oi := ⟨some 8, _, _, _, _, _⟩) (v := ?_) rfl (by kernel_rfl) (by kernel_rfl) (by kernel_rfl) (by kernel_rfl) (fun _ _ _ h => h) (Or.inl ⟨by kernel_rfl, ?hy0⟩) (by assumption) ?_
        case hy0 => (intro w' hSw; (try dsimp only at hSw); go_simp; try with_reducible rfl)
        simp only [Act.put, List.setIfInBounds_toArray, List.set_cons_zero, List.set_cons_succ]
        refine lastAny_take (i := 2) (oi := ⟨some 10, _, _, _, _, _⟩) (v := ?_) rfl (by kernel_rfl) (by kernel_rfl) (by kernel_rfl) (by kernel_rfl) (fun _ _ _ h => h) (Or.inl ⟨by kernel_rfl, ?hy2⟩) (by assumption) ?_
        case hy2 => (intro w' hSw; (try dsimp only at hSw); go_simp; try with_reducible rfl)
        simp only [Act.put, List.setIfInBounds_toArray, List.set_cons_zero, List.set_cons_succ]
        refine lastAny_take (i := 3) (oi := ⟨some 11, _, _, _, _, _⟩) (v := ?_) rfl (by kernel_rfl) (by kernel_rfl) (by kernel_rfl) (by kernel_rfl) (fun _ _ _ h => h) (Or.inl ⟨by kernel_rfl, ?hy3⟩) (by assumption) ?_
        case hy3 => (intro w' hSw; (try dsimp only at hSw); go_simp; try with_reducible rfl)
        simp only [Act.put, List.setIfInBounds_toArray, List.set_cons_zero, List.set_cons_succ]
        refine lastAny_ready (rs := [1, 8]) (by kernel_rfl) (by simp) ?_
        refine AllReadyL.cons (o := ⟨some 9, _, _, _, _, _⟩) rfl (fun K hK => ?_) (AllReadyL.cons (o := ⟨some 5, _, _, _, _, _⟩) rfl (fun K hK => ?_) AllReadyL.nil)
        · (rw [if_pos (by kernel_rfl)])
          go_simp
          refine (buf_callsL W2.drew O F b s (objLn.below H2.out HBd.out) (spans_below HS.out (HB2.out.trans (HBd.out.mono HB2.out.size)))).mono ?_
          rintro e w4 ⟨rfl, hb⟩
          have hbn := HBd.out.trans (hb.mono HBd.out.size)
          have qn := HSS.out w4 hbn
          have HB4 := Lib.hid hbn
          clear hb hbn
          refine hK.out _ _ qn (fun hHeld => ?_)
          clear hK K qn
          refine lastAny_ready (rs := [4, 8]) (by kernel_rfl) (by simp) ?_
          refine AllReadyL.cons (o := ⟨some 12, _, _, _, _, _⟩) rfl (fun K hK => ?_) (AllReadyL.cons (o := ⟨some 5, _, _, _, _, _⟩) rfl (fun K hK => ?_) AllReadyL.nil)
          · (rw [if_pos (by kernel_rfl)])
            go_simp
            refine (HI.out w4 (spans_below HS.out (HB2.out.trans (HB4.out.mono HB2.out.size)))).mono ?_
            rintro e w5 ⟨rfl, hb⟩
            have hbn := HB4.out.trans (hb.mono HB4.out.size)
            have qn := HSS.out w5 hbn
            have HB5 := Lib.hid hbn
            clear hb hbn
            refine hK.out _ _ qn (fun hHeld => ?_)
            clear hK K qn
            refine lastAny_take (i := 5) (oi := ⟨some 7, _, _, _, _, _⟩) (v := ?_) rfl (by kernel_rfl) (by kernel_rfl) (by kernel_rfl) (by kernel_rfl) (fun _ _ _ h => h) (Or.inl ⟨by kernel_rfl, ?hy5⟩) (by assumption) ?_
            case hy5 => (intro w' hSw; (try dsimp only at hSw); go_simp; try with_reducible rfl)
            simp only [Act.put, List.setIfInBounds_toArray, List.set_cons_zero, List.set_cons_succ]
            refine lastAny_take (i := 6) (oi := ⟨some 13, _, _, _, _, _⟩) (v := ?_) rfl (by kernel_rfl) (by kernel_rfl) (by kernel_rfl) (by kernel_rfl) (fun _ _ _ h => h) (Or.inl ⟨by kernel_rfl, ?hy6⟩) (by assumption) ?_
            case hy6 => (intro w' hSw; (try dsimp only at hSw); go_simp; try with_reducible rfl)
            simp only [Act.put, List.setIfInBounds_toArray, List.set_cons_zero, List.set_cons_succ]
            refine lastAny_take (i := 7) (oi := ⟨some 14, _, _, _, _, _⟩) (v := ?_) rfl (by kernel_rfl) (by kernel_rfl) (by kernel_rfl) (by kernel_rfl) (fun _ _ _ h => h) (Or.inl ⟨by kernel_rfl, ?hy7⟩) (by assumption) ?_
            case hy7 => (intro w' hSw; (try dsimp only at hSw); go_simp; try with_reducible rfl)
            simp only [Act.put, List.setIfInBounds_toArray, List.set_cons_zero, List.set_cons_succ]
            refine lastAny_ready (rs := [8]) (by kernel_rfl) (by simp) ?_
            refine AllReadyL.cons (o := ⟨some 5, _, _, _, _, _⟩) rfl (fun K hK => ?_) AllReadyL.nil
            (rw [if_pos (by kernel_rfl)])
            go_simp
            have hbn : Below W2.heap.size W2 (w5.alloc (.cells #[.string ⟨#[]⟩, .int .i64 0] 23)) := HB5.out.alloc HB5.out.size _
            have qn := HSS.out _ hbn
            have x := Bx.new w5 23 (.string ⟨#[]⟩) (.int .i64 0)
            have HKW : Hid (W2.heap.size ≤ w5.heap.size) := Lib.hid (HB5.out.size)
            have HB6 := Lib.hid hbn
            have HX6 := Lib.hid x
            clear x hbn
            refine hK.out _ _ qn (fun hHeld => ?_)
            clear hK K qn
            have x5 := Bx.new w5 23 (.string (bs x.1)) (.int .i64 (x.2 : Int))
            have hb5 : Below W2.heap.size W2 (w5.alloc (.cells #[.string (bs x.1), .int .i64 (x.2 : Int)] 23)) := HB5.out.alloc HB5.out.size _
            have hkw := HKW.out
            have q5 := HSS.out _ hb5
            have y0 := HX6.out.c0
            have y1 := HX6.out.c1
            have z0 := HX6.out.f0
            have z1 := HX6.out.f1
            have HX5 := Lib.hid x5
            have HB5 := Lib.hid hb5
            clear x5 hb5
            refine lastAny_ready (rs := [9]) (by kernel_rfl) (by simp) ?_
            refine AllReadyL.cons (o := ⟨none, _, _, _, _, _⟩) rfl (fun K hK => ?_) AllReadyL.nil
            (rw [if_pos (by kernel_rfl)])
            go_simp
            refine hK.out _ _ q5 (fun hHeld => ?_)
            clear hK K
            refine lastAny_end (by kernel_rfl) rfl (by kernel_rfl) (by kernel_rfl) (fun K hK => ?_)
            go_simp
            refine hK.out _ _ ?_
            clear hK K
            go_wp2_with fail
            go_meet
            exact ⟨_, rfl, rfl, HB5.out, HX5.out, hkw⟩
          · (rw [if_pos (by kernel_rfl)])
            go_simp
            have hbn : Below W2.heap.size W2 (w4.alloc (.cells #[.string ⟨#[]⟩, .int .i64 0] 23)) := HB4.out.alloc HB4.out.size _
            have qn := HSS.out _ hbn
            have x := Bx.new w4 23 (.string ⟨#[]⟩) (.int .i64 0)
            have HKW : Hid (W2.heap.size ≤ w4.heap.size) := Lib.hid (HB4.out.size)
            have HB5 := Lib.hid hbn
            have HX5 := Lib.hid x
            clear x hbn
            refine hK.out _ _ qn (fun hHeld => ?_)
            clear hK K qn
            refine lastAny_ready (rs := [4]) (by kernel_rfl) (by simp) ?_
            refine AllReadyL.cons (o := ⟨some 12, _, _, _, _, _⟩) rfl (fun K hK => ?_) AllReadyL.nil
            (rw [if_pos (by kernel_rfl)])
            go_simp
            refine (HI.out (w4.alloc (.cells #[.string ⟨#[]⟩, .int .i64 0] 23)) (spans_below HS.out (HB2.out.trans (HB5.out.mono HB2.out.size)))).mono ?_
            rintro e w6 ⟨rfl, hb⟩
            have hbn := HB5.out.trans (hb.mono HB5.out.size)
            have qn := HSS.out w6 hbn
            have HB6 := Lib.hid hbn
            have HX6 := Lib.hid (HX5.out.below hb)
            clear hb hbn
            refine hK.out _ _ qn (fun hHeld => ?_)
            clear hK K qn
            refine lastAny_take (i := 5) (oi := ⟨some 7, _, _, _, _, _⟩) (v := ?_) rfl (by kernel_rfl) (by kernel_rfl) (by kernel_rfl) (by kernel_rfl) (fun _ _ _ h => h) (Or.inl ⟨by kernel_rfl, ?hy5⟩) (by assumption) ?_
            case hy5 => (intro w' hSw; (try dsimp only at hSw); go_simp; try with_reducible rfl)
            simp only [Act.put, List.setIfInBounds_toArray, List.set_cons_zero, List.set_cons_succ]
            refine lastAny_take (i := 6) (oi := ⟨some 13, _, _, _, _, _⟩) (v := ?_) rfl (by kernel_rfl) (by kernel_rfl) (by kernel_rfl) (by kernel_rfl) (fun _ _ _ h => h) (Or.inl ⟨by kernel_rfl, ?hy6⟩) (by assumption) ?_
            case hy6 => (intro w' hSw; (try dsimp only at hSw); go_simp; try with_reducible rfl)
            simp only [Act.put, List.setIfInBounds_toArray, List.set_cons_zero, List.set_cons_succ]
            refine lastAny_take (i := 7) (oi := ⟨some 14, _, _, _, _, _⟩) (v := ?_) rfl (by kernel_rfl) (by kernel_rfl) (by kernel_rfl) (by kernel_rfl) (fun _ _ _ h => h) (Or.inl ⟨by kernel_rfl, ?hy7⟩) (by assumption) ?_
            case hy7 => (intro w' hSw; (try dsimp only at hSw); go_simp; try with_reducible rfl)
            simp only [Act.put, List.setIfInBounds_toArray, List.set_cons_zero, List.set_cons_succ]
            have x5 := (HX6.out.set0 (.string (bs x.1))).set1 (.int .i64 (x.2 : Int))
            have hb5 : Below W2.heap.size W2 ((w6.setCell ⟨w4.heap.size, 0, none⟩ (.string (bs x.1))).setCell ⟨w4.heap.size, 1, none⟩ (.int .i64 (x.2 : Int))) := (HB6.out.setCell (p := ⟨w4.heap.size, 0, none⟩) HKW.out _).setCell (p := ⟨w4.heap.size, 1, none⟩) HKW.out _
            have hkw := HKW.out
            have q5 := HSS.out _ hb5
            have y0 := HX6.out.c0
            have y1 := HX6.out.c1
            have z0 := HX6.out.f0
            have z1 := HX6.out.f1
            have HX5 := Lib.hid x5
            have HB5 := Lib.hid hb5
            clear x5 hb5
            refine lastAny_ready (rs := [9]) (by kernel_rfl) (by simp) ?_
            refine AllReadyL.cons (o := ⟨none, _, _, _, _, _⟩) rfl (fun K hK => ?_) AllReadyL.nil
            (rw [if_pos (by kernel_rfl)])
            go_simp
            refine hK.out _ _ q5 (fun hHeld => ?_)
            clear hK K
            refine lastAny_end (by kernel_rfl) rfl (by kernel_rfl) (by kernel_rfl) (fun K hK => ?_)
            go_simp
            refine hK.out _ _ ?_
            clear hK K
            go_wp2_with fail
            go_meet
            exact ⟨_, rfl, rfl, HB5.out, HX5.out, hkw⟩
        · (rw [if_pos (by kernel_rfl)])
          go_simp
          have hbn : Below W2.heap.size W2 (W2.drew.alloc (.cells #[.string ⟨#[]⟩, .int .i64 0] 23)) := HBd.out.alloc HBd.out.size _
          have qn := HSS.out _ hbn
          have x := Bx.new W2.drew 23 (.string ⟨#[]⟩) (.int .i64 0)
          rw [show W2.drew.heap.size = W2.heap.size from rfl] at x
          have HKW : Hid (W2.heap.size ≤ W2.heap.size) := Lib.hid (Nat.le_refl _)
          have HB4 := Lib.hid hbn
          have HX4 := Lib.hid x
          clear x hbn
          refine hK.out _ _ qn (fun hHeld => ?_)
          clear hK K qn
          refine lastAny_ready (rs := [1]) (by kernel_rfl) (by simp) ?_
          refine AllReadyL.cons (o := ⟨some 9, _, _, _, _, _⟩) rfl (fun K hK => ?_) AllReadyL.nil
          (rw [if_pos (by kernel_rfl)])
          go_simp
          refine (buf_callsL (W2.drew.alloc (.cells #[.string ⟨#[]⟩, .int .i64 0] 23)) O F b s (objLn.below H2.out HB4.out) (spans_below HS.out (HB2.out.trans (HB4.out.mono HB2.out.size)))).mono ?_
          rintro e w5 ⟨rfl, hb⟩
          have hbn := HB4.out.trans (hb.mono HB4.out.size)
          have qn := HSS.out w5 hbn
          have HB5 := Lib.hid hbn
          have HX5 := Lib.hid (HX4.out.below hb)
          clear hb hbn
          refine hK.out _ _ qn (fun hHeld => ?_)
          clear hK K qn
          refine lastAny_ready (rs := [4]) (by kernel_rfl) (by simp) ?_
          refine AllReadyL.cons (o := ⟨some 12, _, _, _, _, _⟩) rfl (fun K hK => ?_) AllReadyL.nil
          (rw [if_pos (by kernel_rfl)])
          go_simp
          refine (HI.out w5 (spans_below HS.out (HB2.out.trans (HB5.out.mono HB2.out.size)))).mono ?_
          rintro e w6 ⟨rfl, hb⟩
          have hbn := HB5.out.trans (hb.mono HB5.out.size)
          have qn := HSS.out w6 hbn
          have HB6 := Lib.hid hbn
          have HX6 := Lib.hid (HX5.out.below hb)
          clear hb hbn
          refine hK.out _ _ qn (fun hHeld => ?_)
          clear hK K qn
          refine lastAny_take (i := 5) (oi := ⟨some 7, _, _, _, _, _⟩) (v := ?_) rfl (by kernel_rfl) (by kernel_rfl) (by kernel_rfl) (by kernel_rfl) (fun _ _ _ h => h) (Or.inl ⟨by kernel_rfl, ?hy5⟩) (by assumption) ?_
          case hy5 => (intro w' hSw; (try dsimp only at hSw); go_simp; try with_reducible rfl)
          simp only [Act.put, List.setIfInBounds_toArray, List.set_cons_zero, List.set_cons_succ]
          refine lastAny_take (i := 6) (oi := ⟨some 13, _, _, _, _, _⟩) (v := ?_) rfl (by kernel_rfl) (by kernel_rfl) (by kernel_rfl) (by kernel_rfl) (fun _ _ _ h => h) (Or.inl ⟨by kernel_rfl, ?hy6⟩) (by assumption) ?_
          case hy6 => (intro w' hSw; (try dsimp only at hSw); go_simp; try with_reducible rfl)
          simp only [Act.put, List.setIfInBounds_toArray, List.set_cons_zero, List.set_cons_succ]
          refine lastAny_take (i := 7) (oi := ⟨some 14, _, _, _, _, _⟩) (v := ?_) rfl (by kernel_rfl) (by kernel_rfl) (by kernel_rfl) (by kernel_rfl) (fun _ _ _ h => h) (Or.inl ⟨by kernel_rfl, ?hy7⟩) (by assumption) ?_
          case hy7 => (intro w' hSw; (try dsimp only at hSw); go_simp; try with_reducible rfl)
          simp only [Act.put, List.setIfInBounds_toArray, List.set_cons_zero, List.set_cons_succ]
          have x5 := (HX6.out.set0 (.string (bs x.1))).set1 (.int .i64 (x.2 : Int))
          have hb5 : Below W2.heap.size W2 ((w6.setCell ⟨W2.heap.size, 0, none⟩ (.string (bs x.1))).setCell ⟨W2.heap.size, 1, none⟩ (.int .i64 (x.2 : Int))) := (HB6.out.setCell (p := ⟨W2.heap.size, 0, none⟩) HKW.out _).setCell (p := ⟨W2.heap.size, 1, none⟩) HKW.out _
          have hkw := HKW.out
          have q5 := HSS.out _ hb5
          have y0 := HX6.out.c0
          have y1 := HX6.out.c1
          have z0 := HX6.out.f0
          have z1 := HX6.out.f1
          have HX5 := Lib.hid x5
          have HB5 := Lib.hid hb5
          clear x5 hb5
          refine lastAny_ready (rs := [9]) (by kernel_rfl) (by simp) ?_
          refine AllReadyL.cons (o := ⟨none, _, _, _, _, _⟩) rfl (fun K hK => ?_) AllReadyL.nil
          (rw [if_pos (by kernel_rfl)])
          go_simp
          refine hK.out _ _ q5 (fun hHeld => ?_)
          clear hK K
          refine lastAny_end (by kernel_rfl) rfl (by kernel_rfl) (by kernel_rfl) (fun K hK => ?_)
          go_simp
          refine hK.out _ _ ?_
          clear hK K
          go_wp2_with fail
          go_meet
          exact ⟨_, rfl, rfl, HB5.out, HX5.out, hkw⟩
      case rest =>
        obtain ⟨K, rfl, rfl, hBc, hK, hKW⟩ := hcut
        have r0 := hK.c0
        have r1 := hK.c1
        have HBC := Lib.hid hBc
        have kc := HSS.out wc hBc
        have HK := Lib.hid hK
        clear HSS HI kc1 hK hBc
        go_wp2_with fail
        refine (HWd.out wc (spans_below HS.out (HB2.out.trans (HBC.out.mono HB2.out.size)))).mono ?_
        rintro e w5 ⟨rfl, hb5⟩
        have HB5 := Lib.hid (HBC.out.trans (hb5.mono HBC.out.size))
        have k5 := HK.out.below hb5
        have u0 := k5.c0
        have u1 := k5.c1
        have HK5 := Lib.hid k5
        clear hb5 k5 r0 r1 HWd
        obtain ⟨g, r, Rl, Rr, hA⟩ := objLn.below H2.out HB5.out
        have hbg := hA.bg
        have hkg : K ≠ g := fun e => by
          obtain ⟨g2, r2, Rl2, Rr2, h2⟩ := H2.out
          have h3 := hA.log.lt g hA.log.ins
          have h4 := (hA.hO g).2 (.inr (.inl rfl))
          have h5 := objLn.lt H2.out g (.inl h4)
          omega
        have c0 := hA.box.c 0 rfl
        have HA := Lib.hid (hA.below (Below.refl _ w5).drew)
        have HDo := Lib.hid (do_callsB w5.drew Rl g s.log (objB.below hA.log (Below.refl _ w5).drew) x 1)
        have HSS : Hid (∀ w' : World, Only (fun k => k = g) w5.drew w' → w'.cell? ⟨b, 0, none⟩ = some (.pointer (some ⟨g, 0, none⟩)) ∧ w'.cell? ⟨K, 0, none⟩ = some (.string (bs x.1)) ∧ w'.cell? ⟨K, 1, none⟩ = some (.int .i64 (x.2 : Int))) := Lib.hid (fun w' ho => ⟨((hA.box.below (Below.refl _ w5).drew).keep ho hbg).c 0 rfl, ho.cell (Bx.below HK5.out (Below.refl _ w5).drew).c0 hkg, ho.cell (Bx.below HK5.out (Below.refl _ w5).drew).c1 hkg⟩)
        unfold bufV at HDo
        clear hA hbg hkg
        go_upto_region 5 with fail
        refine wp_region_held_drew (S := (fun w' => w'.cell? ⟨b, 0, none⟩ = some (.pointer (some ⟨g, 0, none⟩)) ∧ w'.cell? ⟨K, 0, none⟩ = some (.string (bs x.1)) ∧ w'.cell? ⟨K, 1, none⟩ = some (.int .i64 (x.2 : Int)))) (by kernel_rfl) ⟨c0, u0, u1⟩ (fun hHeld => ?_)
        refine wpAnyH_take (i := 0) (oi := ⟨some 25, _, _, _, _, _⟩) (v := ?_) rfl (by kernel_rfl) (by kernel_rfl) (by kernel_rfl) (fun _ _ _ h => h) (Or.inl ⟨by kernel_rfl, ?hy0⟩) (by assumption) ?_
        case hy0 => (intro w' hSw; (try dsimp only at hSw); go_simp; try with_reducible rfl)
        simp only [Act.put, List.setIfInBounds_toArray, List.set_cons_zero, List.set_cons_succ]
        refine wpAnyH_take (i := 1) (oi := ⟨some 26, _, _, _, _, _⟩) (v := ?_) rfl (by kernel_rfl) (by kernel_rfl) (by kernel_rfl) (fun _ _ _ h => h) (Or.inl ⟨by kernel_rfl, ?hy1⟩) (by assumption) ?_
        case hy1 => (intro w' hSw; (try dsimp only at hSw); go_simp; try with_reducible rfl)
        simp only [Act.put, List.setIfInBounds_toArray, List.set_cons_zero, List.set_cons_succ]
        refine wpAnyH_take (i := 2) (oi := ⟨some 27, _, _, _, _, _⟩) (v := ?_) rfl (by kernel_rfl) (by kernel_rfl) (by kernel_rfl) (fun _ _ _ h => h) (Or.inl ⟨by kernel_rfl, ?hy2⟩) (by assumption) ?_
        case hy2 => (intro w' hSw; (try dsimp only at hSw); go_simp; try with_reducible rfl)
        simp only [Act.put, List.setIfInBounds_toArray, List.set_cons_zero, List.set_cons_succ]
        refine wpAnyH_take (i := 3) (oi := ⟨some 28, _, _, _, _, _⟩) (v := ?_) rfl (by kernel_rfl) (by kernel_rfl) (by kernel_rfl) (fun _ _ _ h => h) (Or.inl ⟨by kernel_rfl, ?hy3⟩) (by assumption) ?_
        case hy3 => (intro w' hSw; (try dsimp only at hSw); go_simp; try with_reducible rfl)
        simp only [Act.put, List.setIfInBounds_toArray, List.set_cons_zero, List.set_cons_succ]
        refine wpAnyH_take (i := 4) (oi := ⟨some 29, _, _, _, _, _⟩) (v := ?_) rfl (by kernel_rfl) (by kernel_rfl) (by kernel_rfl) (fun _ _ _ h => h) (Or.inl ⟨by kernel_rfl, ?hy4⟩) (by assumption) ?_
        case hy4 => (intro w' hSw; (try dsimp only at hSw); go_simp; try with_reducible rfl)
        simp only [Act.put, List.setIfInBounds_toArray, List.set_cons_zero, List.set_cons_succ]
        refine wpAnyH_ready (rs := [5]) (by kernel_rfl) (by simp) ?_
        refine AllReadyH.cons (o := ⟨some 30, _, _, _, _, _⟩) rfl (fun K hK => ?_) AllReadyH.nil
        (rw [if_pos (by kernel_rfl)])
        go_simp
        refine HDo.out.mono ?_
        rintro e w8 ⟨rfl, htb⟩
        have hS := HSS.out w8 (by obtain ⟨_, _, ho, _⟩ := htb; exact ho)
        have ht8 : ToLn w5.drew O F w8 b ⟨s.log.does x 1, s.ring, s.last⟩ := HA.out.log_to htb ⟨HA.out.ok.log.does x 1, (LN.does_lim _ _ _).trans HA.out.ok.lim, HA.out.ok.rt.does HR.out 1, HA.out.ok.ring, HA.out.ok.rlim⟩
        rw [show s.log.does x 1 = wrG s.log x 1 from (if_neg (by decide)).symm] at ht8
        have HT8 := Lib.hid ht8
        have HBd := Lib.hid HB5.out.drew
        clear htb ht8 HDo HSS
        refine hK.out _ _ hS (fun hHeld => ?_)
        clear hK K
        refine wpAnyH_done (by kernel_rfl) ?_ _
        have ht8 := HT8.out
        have hf := fin3 H.out HB2.out (Nat.le_add_right _ 1) (by have := HN2.out; omega) HD2.out HBd.out ht8
        have HF := Lib.hid hf.2
        have hd9 := hf.1
        have q0 := hd9.c 0 rfl
        have q1 := hd9.c 1 rfl
        have q2 := hd9.c 2 rfl
        have p0 := hd9.free 0
        have p1 := hd9.free 1
        have p2 := hd9.free 2
        have HD9 := Lib.hid hd9
        clear hf hd9
        go_wp2_with fail
        refine bodyPost_ret (results_bx3 rfl _ _ (w.heap.size + 1) _ _ _ 49 rfl (three_box HD9.out _ _ _) Tryd.underlying49 (szD _)) rfl ?_
        exact ⟨rfl, HF.out _ _ _⟩
    · replace hword : wordT t = false := by simpa using hword
      rw [hword, if_neg Bool.false_ne_true]
      have HI : Hid (∀ W, Spans W → Calls Tryd.prog 37 #[.agg #[.string (bs s.buf.1), .int .i64 (s.buf.2 : Int)], .string (bs t)] W fun e w' => e = .returned (.tuple #[.agg #[.string (bs (insB s.buf (plainL t)).1), .int .i64 ((insB s.buf (plainL t)).2 : Int)], .int .i64 0]) ∧ Below W.heap.size W w') := Lib.hid (fun W hS => by
        have := insert_ok s.buf.1 t s.buf.2 hl6 hp6 W hS (by rw [e1]; exact hfit)
        rwa [e1, e2] at this)
      have HR : Hid (Rt (insB s.buf (plainL t)).1 (insB s.buf (plainL t)).2) := Lib.hid (LN.insB_rt (line_ok h).rt.1 (plain_P t) hfit)
      have g1 : ((0 : Int) != 0) = false := rfl
      have HWd := Lib.hid (fun W hS => word_callsL t ht W hS)
      rw [hword] at HWd
      clear h hsp hB2 hs2 hk2 hd2 hrt hl6 hp6 e1 e2 hfit hword
      generalize insB s.buf (plainL t) = x at *
      go_enter Tryd.func40, Tryd.ntmps40
      go_upto_region 1 with fail
      go_cut [5, 6] from 7 (fun s5 s6 wc => ∃ K, s5 = .pointer (some ⟨K, 0, none⟩) ∧ s6 = .int .i64 0 ∧ Below W2.heap.size W2 wc ∧ Bx wc K 23 (.string (bs x.1)) (.int .i64 (x.2 : Int)) ∧ W2.heap.size ≤ K)
      case first =>
        have HBd : Hid (Below W2.heap.size W2 W2.drew) := Lib.hid (Below.refl _ W2).drew
        refine wp_region_last (S := (fun w' => w'.cell? ⟨w.heap.size, 1, none⟩ = some (.string (bs t)))) 10 (by kernel_rfl) kc1 (fun hHeld => ?_)
        refine lastAny_take (i := 0) (oi := ⟨some 8, _, _, _, _, _⟩) (v := ?_) rfl (by kernel_rfl) (by kernel_rfl) (by kernel_rfl) (by kernel_rfl) (fun _ _ _ h => h) (Or.inl ⟨by kernel_rfl, ?hy0⟩) (by assumption) ?_
        case hy0 => (intro w' hSw; (try dsimp only at hSw); go_simp; try with_reducible rfl)
        simp only [Act.put, List.setIfInBounds_toArray, List.set_cons_zero, List.set_cons_succ]
        refine lastAny_take (i := 2) (oi := ⟨some 10, _, _, _, _, _⟩) (v := ?_) rfl (by kernel_rfl) (by kernel_rfl) (by kernel_rfl) (by kernel_rfl) (fun _ _ _ h => h) (Or.inl ⟨by kernel_rfl, ?hy2⟩) (by assumption) ?_
        case hy2 => (intro w' hSw; (try dsimp only at hSw); go_simp; try with_reducible rfl)
        simp only [Act.put, List.setIfInBounds_toArray, List.set_cons_zero, List.set_cons_succ]
        refine lastAny_take (i := 3) (oi := ⟨some 11, _, _, _, _, _⟩) (v := ?_) rfl (by kernel_rfl) (by kernel_rfl) (by kernel_rfl) (by kernel_rfl) (fun _ _ _ h => h) (Or.inl ⟨by kernel_rfl, ?hy3⟩) (by assumption) ?_
        case hy3 => (intro w' hSw; (try dsimp only at hSw); go_simp; try with_reducible rfl)
        simp only [Act.put, List.setIfInBounds_toArray, List.set_cons_zero, List.set_cons_succ]
        refine lastAny_ready (rs := [1, 8]) (by kernel_rfl) (by simp) ?_
        refine AllReadyL.cons (o := ⟨some 9, _, _, _, _, _⟩) rfl (fun K hK => ?_) (AllReadyL.cons (o := ⟨some 5, _, _, _, _, _⟩) rfl (fun K hK => ?_) AllReadyL.nil)
        · (rw [if_pos (by kernel_rfl)])
          go_simp
          refine (buf_callsL W2.drew O F b s (objLn.below H2.out HBd.out) (spans_below HS.out (HB2.out.trans (HBd.out.mono HB2.out.size)))).mono ?_
          rintro e w4 ⟨rfl, hb⟩
          have hbn := HBd.out.trans (hb.mono HBd.out.size)
          have qn := HSS.out w4 hbn
          have HB4 := Lib.hid hbn
          clear hb hbn
          refine hK.out _ _ qn (fun hHeld => ?_)
          clear hK K qn
          refine lastAny_ready (rs := [4, 8]) (by kernel_rfl) (by simp) ?_
          refine AllReadyL.cons (o := ⟨some 12, _, _, _, _, _⟩) rfl (fun K hK => ?_) (AllReadyL.cons (o := ⟨some 5, _, _, _, _, _⟩) rfl (fun K hK => ?_) AllReadyL.nil)
          · (rw [if_pos (by kernel_rfl)])
            go_simp
            refine (HI.out w4 (spans_below HS.out (HB2.out.trans (HB4.out.mono HB2.out.size)))).mono ?_
            rintro e w5 ⟨rfl, hb⟩
            have hbn := HB4.out.trans (hb.mono HB4.out.size)
            have qn := HSS.out w5 hbn
            have HB5 := Lib.hid hbn
            clear hb hbn
            refine hK.out _ _ qn (fun hHeld => ?_)
            clear hK K qn
            refine lastAny_take (i := 5) (oi := ⟨some 7, _, _, _, _, _⟩) (v := ?_) rfl (by kernel_rfl) (by kernel_rfl) (by kernel_rfl) (by kernel_rfl) (fun _ _ _ h => h) (Or.inl ⟨by kernel_rfl, ?hy5⟩) (by assumption) ?_
            case hy5 => (intro w' hSw; (try dsimp only at hSw); go_simp; try with_reducible rfl)
            simp only [Act.put, List.setIfInBounds_toArray, List.set_cons_zero, List.set_cons_succ]
            refine lastAny_take (i := 6) (oi := ⟨some 13, _, _, _, _, _⟩) (v := ?_) rfl (by kernel_rfl) (by kernel_rfl) (by kernel_rfl) (by kernel_rfl) (fun _ _ _ h => h) (Or.inl ⟨by kernel_rfl, ?hy6⟩) (by assumption) ?_
            case hy6 => (intro w' hSw; (try dsimp only at hSw); go_simp; try with_reducible rfl)
            simp only [Act.put, List.setIfInBounds_toArray, List.set_cons_zero, List.set_cons_succ]
            refine lastAny_take (i := 7) (oi := ⟨some 14, _, _, _, _, _⟩) (v := ?_) rfl (by kernel_rfl) (by kernel_rfl) (by kernel_rfl) (by kernel_rfl) (fun _ _ _ h => h) (Or.inl ⟨by kernel_rfl, ?hy7⟩) (by assumption) ?_
            case hy7 => (intro w' hSw; (try dsimp only at hSw); go_simp; try with_reducible rfl)
            simp only [Act.put, List.setIfInBounds_toArray, List.set_cons_zero, List.set_cons_succ]
            refine lastAny_ready (rs := [8]) (by kernel_rfl) (by simp) ?_
            refine AllReadyL.cons (o := ⟨some 5, _, _, _, _, _⟩) rfl (fun K hK => ?_) AllReadyL.nil
            (rw [if_pos (by kernel_rfl)])
            go_simp
            have hbn : Below W2.heap.size W2 (w5.alloc (.cells #[.string ⟨#[]⟩, .int .i64 0] 23)) := HB5.out.alloc HB5.out.size _
            have qn := HSS.out _ hbn
            have x := Bx.new w5 23 (.string ⟨#[]⟩) (.int .i64 0)
            have HKW : Hid (W2.heap.size ≤ w5.heap.size) := Lib.hid (HB5.out.size)
            have HB6 := Lib.hid hbn
            have HX6 := Lib.hid x
            clear x hbn
            refine hK.out _ _ qn (fun hHeld => ?_)
            clear hK K qn
            have x5 := Bx.new w5 23 (.string (bs x.1)) (.int .i64 (x.2 : Int))
            have hb5 : Below W2.heap.size W2 (w5.alloc (.cells #[.string (bs x.1), .int .i64 (x.2 : Int)] 23)) := HB5.out.alloc HB5.out.size _
            have hkw := HKW.out
            have q5 := HSS.out _ hb5
            have y0 := HX6.out.c0
            have y1 := HX6.out.c1
            have z0 := HX6.out.f0
            have z1 := HX6.out.f1
            have HX5 := Lib.hid x5
            have HB5 := Lib.hid hb5
            clear x5 hb5
            refine lastAny_ready (rs := [9]) (by kernel_rfl) (by simp) ?_
            refine AllReadyL.cons (o := ⟨none, _, _, _, _, _⟩) rfl (fun K hK => ?_) AllReadyL.nil
            (rw [if_pos (by kernel_rfl)])
            go_simp
            refine hK.out _ _ q5 (fun hHeld => ?_)
            clear hK K
            refine lastAny_end (by kernel_rfl) rfl (by kernel_rfl) (by kernel_rfl) (fun K hK => ?_)
            go_simp
            refine hK.out _ _ ?_
            clear hK K
            go_wp2_with fail
            go_meet
            exact ⟨_, rfl, rfl, HB5.out, HX5.out, hkw⟩
          · (rw [if_pos (by kernel_rfl)])
            go_simp
            have hbn : Below W2.heap.size W2 (w4.alloc (.cells #[.string ⟨#[]⟩, .int .i64 0] 23)) := HB4.out.alloc HB4.out.size _
            have qn := HSS.out _ hbn
            have x := Bx.new w4 23 (.string ⟨#[]⟩) (.int .i64 0)
            have HKW : Hid (W2.heap.size ≤ w4.heap.size) := Lib.hid (HB4.out.size)
            have HB5 := Lib.hid hbn
            have HX5 := Lib.hid x
            clear x hbn
            refine hK.out _ _ qn (fun hHeld => ?_)
            clear hK K qn
            refine lastAny_ready (rs := [4]) (by kernel_rfl) (by simp) ?_
            refine AllReadyL.cons (o := ⟨some 12, _, _, _, _, _⟩) rfl (fun K hK => ?_) AllReadyL.nil
            (rw [if_pos (by kernel_rfl)])
            go_simp
            refine (HI.out (w4.alloc (.cells #[.string ⟨#[]⟩, .int .i64 0] 23)) (spans_below HS.out (HB2.out.trans (HB5.out.mono HB2.out.size)))).mono ?_
            rintro e w6 ⟨rfl, hb⟩
            have hbn := HB5.out.trans (hb.mono HB5.out.size)
            have qn := HSS.out w6 hbn
            have HB6 := Lib.hid hbn
            have HX6 := Lib.hid (HX5.out.below hb)
            clear hb hbn
            refine hK.out _ _ qn (fun hHeld => ?_)
            clear hK K qn
            refine lastAny_take (i := 5) (oi := ⟨some 7, _, _, _, _, _⟩) (v := ?_) rfl (by kernel_rfl) (by kernel_rfl) (by kernel_rfl) (by kernel_rfl) (fun _ _ _ h => h) (Or.inl ⟨by kernel_rfl, ?hy5⟩) (by assumption) ?_
            case hy5 => (intro w' hSw; (try dsimp only at hSw); go_simp; try with_reducible rfl)
            simp only [Act.put, List.setIfInBounds_toArray, List.set_cons_zero, List.set_cons_succ]
            refine lastAny_take (i := 6) (oi := ⟨some 13, _, _, _, _, _⟩) (v := ?_) rfl (by kernel_rfl) (by kernel_rfl) (by kernel_rfl) (by kernel_rfl) (fun _ _ _ h => h) (Or.inl ⟨by kernel_rfl, ?hy6⟩) (by assumption) ?_
            case hy6 => (intro w' hSw; (try dsimp only at hSw); go_simp; try with_reducible rfl)
            simp only [Act.put, List.setIfInBounds_toArray, List.set_cons_zero, List.set_cons_succ]
            refine lastAny_take (i := 7) (oi := ⟨some 14, _, _, _, _, _⟩) (v := ?_) rfl (by kernel_rfl) (by kernel_rfl) (by kernel_rfl) (by kernel_rfl) (fun _ _ _ h => h) (Or.inl ⟨by kernel_rfl, ?hy7⟩) (by assumption) ?_
            case hy7 => (intro w' hSw; (try dsimp only at hSw); go_simp; try with_reducible rfl)
            simp only [Act.put, List.setIfInBounds_toArray, List.set_cons_zero, List.set_cons_succ]
            have x5 := (HX6.out.set0 (.string (bs x.1))).set1 (.int .i64 (x.2 : Int))
            have hb5 : Below W2.heap.size W2 ((w6.setCell ⟨w4.heap.size, 0, none⟩ (.string (bs x.1))).setCell ⟨w4.heap.size, 1, none⟩ (.int .i64 (x.2 : Int))) := (HB6.out.setCell (p := ⟨w4.heap.size, 0, none⟩) HKW.out _).setCell (p := ⟨w4.heap.size, 1, none⟩) HKW.out _
            have hkw := HKW.out
            have q5 := HSS.out _ hb5
            have y0 := HX6.out.c0
            have y1 := HX6.out.c1
            have z0 := HX6.out.f0
            have z1 := HX6.out.f1
            have HX5 := Lib.hid x5
            have HB5 := Lib.hid hb5
            clear x5 hb5
            refine lastAny_ready (rs := [9]) (by kernel_rfl) (by simp) ?_
            refine AllReadyL.cons (o := ⟨none, _, _, _, _, _⟩) rfl (fun K hK => ?_) AllReadyL.nil
            (rw [if_pos (by kernel_rfl)])
            go_simp
            refine hK.out _ _ q5 (fun hHeld => ?_)
            clear hK K
            refine lastAny_end (by kernel_rfl) rfl (by kernel_rfl) (by kernel_rfl) (fun K hK => ?_)
            go_simp
            refine hK.out _ _ ?_
            clear hK K
            go_wp2_with fail
            go_meet
            exact ⟨_, rfl, rfl, HB5.out, HX5.out, hkw⟩
        · (rw [if_pos (by kernel_rfl)])
          go_simp
          have hbn : Below W2.heap.size W2 (W2.drew.alloc (.cells #[.string ⟨#[]⟩, .int .i64 0] 23)) := HBd.out.alloc HBd.out.size _
          have qn := HSS.out _ hbn
          have x := Bx.new W2.drew 23 (.string ⟨#[]⟩) (.int .i64 0)
          rw [show W2.drew.heap.size = W2.heap.size from rfl] at x
          have HKW : Hid (W2.heap.size ≤ W2.heap.size) := Lib.hid (Nat.le_refl _)
          have HB4 := Lib.hid hbn
          have HX4 := Lib.hid x
          clear x hbn
          refine hK.out _ _ qn (fun hHeld => ?_)
          clear hK K qn
          refine lastAny_ready (rs := [1]) (by kernel_rfl) (by simp) ?_
          refine AllReadyL.cons (o := ⟨some 9, _, _, _, _, _⟩) rfl (fun K hK => ?_) AllReadyL.nil
          (rw [if_pos (by kernel_rfl)])
          go_simp
          refine (buf_callsL (W2.drew.alloc (.cells #[.string ⟨#[]⟩, .int .i64 0] 23)) O F b s (objLn.below H2.out HB4.out) (spans_below HS.out (HB2.out.trans (HB4.out.mono HB2.out.size)))).mono ?_
          rintro e w5 ⟨rfl, hb⟩
          have hbn := HB4.out.trans (hb.mono HB4.out.size)
          have qn := HSS.out w5 hbn
          have HB5 := Lib.hid hbn
          have HX5 := Lib.hid (HX4.out.below hb)
          clear hb hbn
          refine hK.out _ _ qn (fun hHeld => ?_)
          clear hK K qn
          refine lastAny_ready (rs := [4]) (by kernel_rfl) (by simp) ?_
          refine AllReadyL.cons (o := ⟨some 12, _, _, _, _, _⟩) rfl (fun K hK => ?_) AllReadyL.nil
          (rw [if_pos (by kernel_rfl)])
          go_simp
          refine (HI.out w5 (spans_below HS.out (HB2.out.trans (HB5.out.mono HB2.out.size)))).mono ?_
          rintro e w6 ⟨rfl, hb⟩
          have hbn := HB5.out.trans (hb.mono HB5.out.size)
          have qn := HSS.out w6 hbn
          have HB6 := Lib.hid hbn
          have HX6 := Lib.hid (HX5.out.below hb)
          clear hb hbn
          refine hK.out _ _ qn (fun hHeld => ?_)
          clear hK K qn
          refine lastAny_take (i := 5) (oi := ⟨some 7, _, _, _, _, _⟩) (v := ?_) rfl (by kernel_rfl) (by kernel_rfl) (by kernel_rfl) (by kernel_rfl) (fun _ _ _ h => h) (Or.inl ⟨by kernel_rfl, ?hy5⟩) (by assumption) ?_
          case hy5 => (intro w' hSw; (try dsimp only at hSw); go_simp; try with_reducible rfl)
          simp only [Act.put, List.setIfInBounds_toArray, List.set_cons_zero, List.set_cons_succ]
          refine lastAny_take (i := 6) (oi := ⟨some 13, _, _, _, _, _⟩) (v := ?_) rfl (by kernel_rfl) (by kernel_rfl) (by kernel_rfl) (by kernel_rfl) (fun _ _ _ h => h) (Or.inl ⟨by kernel_rfl, ?hy6⟩) (by assumption) ?_
          case hy6 => (intro w' hSw; (try dsimp only at hSw); go_simp; try with_reducible rfl)
          simp only [Act.put, List.setIfInBounds_toArray, List.set_cons_zero, List.set_cons_succ]
          refine lastAny_take (i := 7) (oi := ⟨some 14, _, _, _, _, _⟩) (v := ?_) rfl (by kernel_rfl) (by kernel_rfl) (by kernel_rfl) (by kernel_rfl) (fun _ _ _ h => h) (Or.inl ⟨by kernel_rfl, ?hy7⟩) (by assumption) ?_
          case hy7 => (intro w' hSw; (try dsimp only at hSw); go_simp; try with_reducible rfl)
          simp only [Act.put, List.setIfInBounds_toArray, List.set_cons_zero, List.set_cons_succ]
          have x5 := (HX6.out.set0 (.string (bs x.1))).set1 (.int .i64 (x.2 : Int))
          have hb5 : Below W2.heap.size W2 ((w6.setCell ⟨W2.heap.size, 0, none⟩ (.string (bs x.1))).setCell ⟨W2.heap.size, 1, none⟩ (.int .i64 (x.2 : Int))) := (HB6.out.setCell (p := ⟨W2.heap.size, 0, none⟩) HKW.out _).setCell (p := ⟨W2.heap.size, 1, none⟩) HKW.out _
          have hkw := HKW.out
          have q5 := HSS.out _ hb5
          have y0 := HX6.out.c0
          have y1 := HX6.out.c1
          have z0 := HX6.out.f0
          have z1 := HX6.out.f1
          have HX5 := Lib.hid x5
          have HB5 := Lib.hid hb5
          clear x5 hb5
          refine lastAny_ready (rs := [9]) (by kernel_rfl) (by simp) ?_
          refine AllReadyL.cons (o := ⟨none, _, _, _, _, _⟩) rfl (fun K hK => ?_) AllReadyL.nil
          (rw [if_pos (by kernel_rfl)])
          go_simp
          refine hK.out _ _ q5 (fun hHeld => ?_)
          clear hK K
          refine lastAny_end (by kernel_rfl) rfl (by kernel_rfl) (by kernel_rfl) (fun K hK => ?_)
          go_simp
          refine hK.out _ _ ?_
          clear hK K
          go_wp2_with fail
          go_meet
          exact ⟨_, rfl, rfl, HB5.out, HX5.out, hkw⟩
      case rest =>
        obtain ⟨K, rfl, rfl, hBc, hK, hKW⟩ := hcut
        have r0 := hK.c0
        have r1 := hK.c1
        have HBC := Lib.hid hBc
        have kc := HSS.out wc hBc
        have HK := Lib.hid hK
        clear HSS HI kc1 hK hBc
        go_wp2_with fail
        refine (HWd.out wc (spans_below HS.out (HB2.out.trans (HBC.out.mono HB2.out.size)))).mono ?_
        rintro e w5 ⟨rfl, hb5⟩
        have HB5 := Lib.hid (HBC.out.trans (hb5.mono HBC.out.size))
        have k5 := HK.out.below hb5
        have u0 := k5.c0
        have u1 := k5.c1
        have HK5 := Lib.hid k5
        clear hb5 k5 r0 r1 HWd
        go_wp2_with fail
        refine (write_callsL w5 O F b s (objLn.below H2.out HB5.out) x HR.out).mono ?_
        rintro e w8 ⟨rfl, ht8⟩
        have hf := fin3 H.out HB2.out (Nat.le_add_right _ 1) (by have := HN2.out; omega) HD2.out HB5.out ht8
        have HF := Lib.hid hf.2
        have hd9 := hf.1
        have q0 := hd9.c 0 rfl
        have q1 := hd9.c 1 rfl
        have q2 := hd9.c 2 rfl
        have p0 := hd9.free 0
        have p1 := hd9.free 1
        have p2 := hd9.free 2
        have HD9 := Lib.hid hd9
        clear hf hd9
        go_wp2_with fail
        refine bodyPost_ret (results_bx3 rfl _ _ (w.heap.size + 1) _ _ _ 49 rfl (three_box HD9.out _ _ _) Tryd.underlying49 (szD _)) rfl ?_
        exact ⟨rfl, HF.out _ _ _⟩
  · rw [if_neg hfit]
    have HI : Hid (∀ W, Spans W → Calls Tryd.prog 37 #[.agg #[.string (bs s.buf.1), .int .i64 (s.buf.2 : Int)], .string (bs t)] W fun e w' => e = .returned (.tuple #[.agg #[.string (bs s.buf.1), .int .i64 (s.buf.2 : Int)], .int .i64 30]) ∧ Below W.heap.size W w') := Lib.hid (fun W hS => by
      have := insert_no s.buf.1 t s.buf.2 hl6 hp6 W hS (by rw [e1]; have := hfit; unfold fits at this; omega)
      rwa [e1, e2] at this)
    have g1 : ((30 : Int) != 0) = true := rfl
    clear h hsp hB2 hs2 hk2 hd2 hrt hl6 hp6 e1 e2 hfit
    go_enter Tryd.func40, Tryd.ntmps40
    go_upto_region 1 with fail
    go_cut [5, 6] from 7 (fun s5 s6 wc => ∃ K, s5 = .pointer (some ⟨K, 0, none⟩) ∧ s6 = .int .i64 30 ∧ Below W2.heap.size W2 wc ∧ Bx wc K 23 (.string (bs s.buf.1)) (.int .i64 (s.buf.2 : Int)) ∧ W2.heap.size ≤ K)
    case first =>
      have HBd : Hid (Below W2.heap.size W2 W2.drew) := Lib.hid (Below.refl _ W2).drew
      refine wp_region_last (S := (fun w' => w'.cell? ⟨w.heap.size, 1, none⟩ = some (.string (bs t)))) 10 (by kernel_rfl) kc1 (fun hHeld => ?_)
      refine lastAny_take (i := 0) (oi := ⟨some 8, _, _, _, _, _⟩) (v := ?_) rfl (by kernel_rfl) (by kernel_rfl) (by kernel_rfl) (by kernel_rfl) (fun _ _ _ h => h) (Or.inl ⟨by kernel_rfl, ?hy0⟩) (by assumption) ?_
      case hy0 => (intro w' hSw; (try dsimp only at hSw); go_simp; try with_reducible rfl)
      simp only [Act.put, List.setIfInBounds_toArray, List.set_cons_zero, List.set_cons_succ]
      refine lastAny_take (i := 2) (oi := ⟨some 10, _, _, _, _, _⟩) (v := ?_) rfl (by kernel_rfl) (by kernel_rfl) (by kernel_rfl) (by kernel_rfl) (fun _ _ _ h => h) (Or.inl ⟨by kernel_rfl, ?hy2⟩) (by assumption) ?_
      case hy2 => (intro w' hSw; (try dsimp only at hSw); go_simp; try with_reducible rfl)
      simp only [Act.put, List.setIfInBounds_toArray, List.set_cons_zero, List.set_cons_succ]
      refine lastAny_take (i := 3) (oi := ⟨some 11, _, _, _, _, _⟩) (v := ?_) rfl (by kernel_rfl) (by kernel_rfl) (by kernel_rfl) (by kernel_rfl) (fun _ _ _ h => h) (Or.inl ⟨by kernel_rfl, ?hy3⟩) (by assumption) ?_
      case hy3 => (intro w' hSw; (try dsimp only at hSw); go_simp; try with_reducible rfl)
      simp only [Act.put, List.setIfInBounds_toArray, List.set_cons_zero, List.set_cons_succ]
      refine lastAny_ready (rs := [1, 8]) (by kernel_rfl) (by simp) ?_
      refine AllReadyL.cons (o := ⟨some 9, _, _, _, _, _⟩) rfl (fun K hK => ?_) (AllReadyL.cons (o := ⟨some 5, _, _, _, _, _⟩) rfl (fun K hK => ?_) AllReadyL.nil)
      · (rw [if_pos (by kernel_rfl)])
        go_simp
        refine (buf_callsL W2.drew O F b s (objLn.below H2.out HBd.out) (spans_below HS.out (HB2.out.trans (HBd.out.mono HB2.out.size)))).mono ?_
        rintro e w4 ⟨rfl, hb⟩
        have hbn := HBd.out.trans (hb.mono HBd.out.size)
        have qn := HSS.out w4 hbn
        have HB4 := Lib.hid hbn
        clear hb hbn
        refine hK.out _ _ qn (fun hHeld => ?_)
        clear hK K qn
        refine lastAny_ready (rs := [4, 8]) (by kernel_rfl) (by simp) ?_
        refine AllReadyL.cons (o := ⟨some 12, _, _, _, _, _⟩) rfl (fun K hK => ?_) (AllReadyL.cons (o := ⟨some 5, _, _, _, _, _⟩) rfl (fun K hK => ?_) AllReadyL.nil)
        · (rw [if_pos (by kernel_rfl)])
          go_simp
          refine (HI.out w4 (spans_below HS.out (HB2.out.trans (HB4.out.mono HB2.out.size)))).mono ?_
          rintro e w5 ⟨rfl, hb⟩
          have hbn := HB4.out.trans (hb.mono HB4.out.size)
          have qn := HSS.out w5 hbn
          have HB5 := Lib.hid hbn
          clear hb hbn
          refine hK.out _ _ qn (fun hHeld => ?_)
          clear hK K qn
          refine lastAny_take (i := 5) (oi := ⟨some 7, _, _, _, _, _⟩) (v := ?_) rfl (by kernel_rfl) (by kernel_rfl) (by kernel_rfl) (by kernel_rfl) (fun _ _ _ h => h) (Or.inl ⟨by kernel_rfl, ?hy5⟩) (by assumption) ?_
          case hy5 => (intro w' hSw; (try dsimp only at hSw); go_simp; try with_reducible rfl)
          simp only [Act.put, List.setIfInBounds_toArray, List.set_cons_zero, List.set_cons_succ]
          refine lastAny_take (i := 6) (oi := ⟨some 13, _, _, _, _, _⟩) (v := ?_) rfl (by kernel_rfl) (by kernel_rfl) (by kernel_rfl) (by kernel_rfl) (fun _ _ _ h => h) (Or.inl ⟨by kernel_rfl, ?hy6⟩) (by assumption) ?_
          case hy6 => (intro w' hSw; (try dsimp only at hSw); go_simp; try with_reducible rfl)
          simp only [Act.put, List.setIfInBounds_toArray, List.set_cons_zero, List.set_cons_succ]
          refine lastAny_take (i := 7) (oi := ⟨some 14, _, _, _, _, _⟩) (v := ?_) rfl (by kernel_rfl) (by kernel_rfl) (by kernel_rfl) (by kernel_rfl) (fun _ _ _ h => h) (Or.inl ⟨by kernel_rfl, ?hy7⟩) (by assumption) ?_
          case hy7 => (intro w' hSw; (try dsimp only at hSw); go_simp; try with_reducible rfl)
          simp only [Act.put, List.setIfInBounds_toArray, List.set_cons_zero, List.set_cons_succ]
          refine lastAny_ready (rs := [8]) (by kernel_rfl) (by simp) ?_
          refine AllReadyL.cons (o := ⟨some 5, _, _, _, _, _⟩) rfl (fun K hK => ?_) AllReadyL.nil
          (rw [if_pos (by kernel_rfl)])
          go_simp
          have hbn : Below W2.heap.size W2 (w5.alloc (.cells #[.string ⟨#[]⟩, .int .i64 0] 23)) := HB5.out.alloc HB5.out.size _
          have qn := HSS.out _ hbn
          have x := Bx.new w5 23 (.string ⟨#[]⟩) (.int .i64 0)
          have HKW : Hid (W2.heap.size ≤ w5.heap.size) := Lib.hid (HB5.out.size)
          have HB6 := Lib.hid hbn
          have HX6 := Lib.hid x
          clear x hbn
          refine hK.out _ _ qn (fun hHeld => ?_)
          clear hK K qn
          have x5 := Bx.new w5 23 (.string (bs s.buf.1)) (.int .i64 (s.buf.2 : Int))
          have hb5 : Below W2.heap.size W2 (w5.alloc (.cells #[.string (bs s.buf.1), .int .i64 (s.buf.2 : Int)] 23)) := HB5.out.alloc HB5.out.size _
          have hkw := HKW.out
          have q5 := HSS.out _ hb5
          have y0 := HX6.out.c0
          have y1 := HX6.out.c1
          have z0 := HX6.out.f0
          have z1 := HX6.out.f1
          have HX5 := Lib.hid x5
          have HB5 := Lib.hid hb5
          clear x5 hb5
          refine lastAny_ready (rs := [9]) (by kernel_rfl) (by simp) ?_
          refine AllReadyL.cons (o := ⟨none, _, _, _, _, _⟩) rfl (fun K hK => ?_) AllReadyL.nil
          (rw [if_pos (by kernel_rfl)])
          go_simp
          refine hK.out _ _ q5 (fun hHeld => ?_)
          clear hK K
          refine lastAny_end (by kernel_rfl) rfl (by kernel_rfl) (by kernel_rfl) (fun K hK => ?_)
          go_simp
          refine hK.out _ _ ?_
          clear hK K
          go_wp2_with fail
          go_meet
          exact ⟨_, rfl, rfl, HB5.out, HX5.out, hkw⟩
        · (rw [if_pos (by kernel_rfl)])
          go_simp
          have hbn : Below W2.heap.size W2 (w4.alloc (.cells #[.string ⟨#[]⟩, .int .i64 0] 23)) := HB4.out.alloc HB4.out.size _
          have qn := HSS.out _ hbn
          have x := Bx.new w4 23 (.string ⟨#[]⟩) (.int .i64 0)
          have HKW : Hid (W2.heap.size ≤ w4.heap.size) := Lib.hid (HB4.out.size)
          have HB5 := Lib.hid hbn
          have HX5 := Lib.hid x
          clear x hbn
          refine hK.out _ _ qn (fun hHeld => ?_)
          clear hK K qn
          refine lastAny_ready (rs := [4]) (by kernel_rfl) (by simp) ?_
          refine AllReadyL.cons (o := ⟨some 12, _, _, _, _, _⟩) rfl (fun K hK => ?_) AllReadyL.nil
          (rw [if_pos (by kernel_rfl)])
          go_simp
          refine (HI.out (w4.alloc (.cells #[.string ⟨#[]⟩, .int .i64 0] 23)) (spans_below HS.out (HB2.out.trans (HB5.out.mono HB2.out.size)))).mono ?_
          rintro e w6 ⟨rfl, hb⟩
          have hbn := HB5.out.trans (hb.mono HB5.out.size)
          have qn := HSS.out w6 hbn
          have HB6 := Lib.hid hbn
          have HX6 := Lib.hid (HX5.out.below hb)
          clear hb hbn
          refine hK.out _ _ qn (fun hHeld => ?_)
          clear hK K qn
          refine lastAny_take (i := 5) (oi := ⟨some 7, _, _, _, _, _⟩) (v := ?_) rfl (by kernel_rfl) (by kernel_rfl) (by kernel_rfl) (by kernel_rfl) (fun _ _ _ h => h) (Or.inl ⟨by kernel_rfl, ?hy5⟩) (by assumption) ?_
          case hy5 => (intro w' hSw; (try dsimp only at hSw); go_simp; try with_reducible rfl)
          simp only [Act.put, List.setIfInBounds_toArray, List.set_cons_zero, List.set_cons_succ]
          refine lastAny_take (i := 6) (oi := ⟨some 13, _, _, _, _, _⟩) (v := ?_) rfl (by kernel_rfl) (by kernel_rfl) (by kernel_rfl) (by kernel_rfl) (fun _ _ _ h => h) (Or.inl ⟨by kernel_rfl, ?hy6⟩) (by assumption) ?_
          case hy6 => (intro w' hSw; (try dsimp only at hSw); go_simp; try with_reducible rfl)
          simp only [Act.put, List.setIfInBounds_toArray, List.set_cons_zero, List.set_cons_succ]
          refine lastAny_take (i := 7) (oi := ⟨some 14, _, _, _, _, _⟩) (v := ?_) rfl (by kernel_rfl) (by kernel_rfl) (by kernel_rfl) (by kernel_rfl) (fun _ _ _ h => h) (Or.inl ⟨by kernel_rfl, ?hy7⟩) (by assumption) ?_
          case hy7 => (intro w' hSw; (try dsimp only at hSw); go_simp; try with_reducible rfl)
          simp only [Act.put, List.setIfInBounds_toArray, List.set_cons_zero, List.set_cons_succ]
          have x5 := (HX6.out.set0 (.string (bs s.buf.1))).set1 (.int .i64 (s.buf.2 : Int))
          have hb5 : Below W2.heap.size W2 ((w6.setCell ⟨w4.heap.size, 0, none⟩ (.string (bs s.buf.1))).setCell ⟨w4.heap.size, 1, none⟩ (.int .i64 (s.buf.2 : Int))) := (HB6.out.setCell (p := ⟨w4.heap.size, 0, none⟩) HKW.out _).setCell (p := ⟨w4.heap.size, 1, none⟩) HKW.out _
          have hkw := HKW.out
          have q5 := HSS.out _ hb5
          have y0 := HX6.out.c0
          have y1 := HX6.out.c1
          have z0 := HX6.out.f0
          have z1 := HX6.out.f1
          have HX5 := Lib.hid x5
          have HB5 := Lib.hid hb5
          clear x5 hb5
          refine lastAny_ready (rs := [9]) (by kernel_rfl) (by simp) ?_
          refine AllReadyL.cons (o := ⟨none, _, _, _, _, _⟩) rfl (fun K hK => ?_) AllReadyL.nil
          (rw [if_pos (by kernel_rfl)])
          go_simp
          refine hK.out _ _ q5 (fun hHeld => ?_)
          clear hK K
          refine lastAny_end (by kernel_rfl) rfl (by kernel_rfl) (by kernel_rfl) (fun K hK => ?_)
          go_simp
          refine hK.out _ _ ?_
          clear hK K
          go_wp2_with fail
          go_meet
          exact ⟨_, rfl, rfl, HB5.out, HX5.out, hkw⟩
      · (rw [if_pos (by kernel_rfl)])
        go_simp
        have hbn : Below W2.heap.size W2 (W2.drew.alloc (.cells #[.string ⟨#[]⟩, .int .i64 0] 23)) := HBd.out.alloc HBd.out.size _
        have qn := HSS.out _ hbn
        have x := Bx.new W2.drew 23 (.string ⟨#[]⟩) (.int .i64 0)
        rw [show W2.drew.heap.size = W2.heap.size from rfl] at x
        have HKW : Hid (W2.heap.size ≤ W2.heap.size) := Lib.hid (Nat.le_refl _)
        have HB4 := Lib.hid hbn
        have HX4 := Lib.hid x
        clear x hbn
        refine hK.out _ _ qn (fun hHeld => ?_)
        clear hK K qn
        refine lastAny_ready (rs := [1]) (by kernel_rfl) (by simp) ?_
        refine AllReadyL.cons (o := ⟨some 9, _, _, _, _, _⟩) rfl (fun K hK => ?_) AllReadyL.nil
        (rw [if_pos (by kernel_rfl)])
        go_simp
        refine (buf_callsL (W2.drew.alloc (.cells #[.string ⟨#[]⟩, .int .i64 0] 23)) O F b s (objLn.below H2.out HB4.out) (spans_below HS.out (HB2.out.trans (HB4.out.mono HB2.out.size)))).mono ?_
        rintro e w5 ⟨rfl, hb⟩
        have hbn := HB4.out.trans (hb.mono HB4.out.size)
        have qn := HSS.out w5 hbn
        have HB5 := Lib.hid hbn
        have HX5 := Lib.hid (HX4.out.below hb)
        clear hb hbn
        refine hK.out _ _ qn (fun hHeld => ?_)
        clear hK K qn
        refine lastAny_ready (rs := [4]) (by kernel_rfl) (by simp) ?_
        refine AllReadyL.cons (o := ⟨some 12, _, _, _, _, _⟩) rfl (fun K hK => ?_) AllReadyL.nil
        (rw [if_pos (by kernel_rfl)])
        go_simp
        refine (HI.out w5 (spans_below HS.out (HB2.out.trans (HB5.out.mono HB2.out.size)))).mono ?_
        rintro e w6 ⟨rfl, hb⟩
        have hbn := HB5.out.trans (hb.mono HB5.out.size)
        have qn := HSS.out w6 hbn
        have HB6 := Lib.hid hbn
        have HX6 := Lib.hid (HX5.out.below hb)
        clear hb hbn
        refine hK.out _ _ qn (fun hHeld => ?_)
        clear hK K qn
        refine lastAny_take (i := 5) (oi := ⟨some 7, _, _, _, _, _⟩) (v := ?_) rfl (by kernel_rfl) (by kernel_rfl) (by kernel_rfl) (by kernel_rfl) (fun _ _ _ h => h) (Or.inl ⟨by kernel_rfl, ?hy5⟩) (by assumption) ?_
        case hy5 => (intro w' hSw; (try dsimp only at hSw); go_simp; try with_reducible rfl)
        simp only [Act.put, List.setIfInBounds_toArray, List.set_cons_zero, List.set_cons_succ]
        refine lastAny_take (i := 6) (oi := ⟨some 13, _, _, _, _, _⟩) (v := ?_) rfl (by kernel_rfl) (by kernel_rfl) (by kernel_rfl) (by kernel_rfl) (fun _ _ _ h => h) (Or.inl ⟨by kernel_rfl, ?hy6⟩) (by assumption) ?_
        case hy6 => (intro w' hSw; (try dsimp only at hSw); go_simp; try with_reducible rfl)
        simp only [Act.put, List.setIfInBounds_toArray, List.set_cons_zero, List.set_cons_succ]
        refine lastAny_take (i := 7) (oi := ⟨some 14, _, _, _, _, _⟩) (v := ?_) rfl (by kernel_rfl) (by kernel_rfl) (by kernel_rfl) (by kernel_rfl) (fun _ _ _ h => h) (Or.inl ⟨by kernel_rfl, ?hy7⟩) (by assumption) ?_
        case hy7 => (intro w' hSw; (try dsimp only at hSw); go_simp; try with_reducible rfl)
        simp only [Act.put, List.setIfInBounds_toArray, List.set_cons_zero, List.set_cons_succ]
        have x5 := (HX6.out.set0 (.string (bs s.buf.1))).set1 (.int .i64 (s.buf.2 : Int))
        have hb5 : Below W2.heap.size W2 ((w6.setCell ⟨W2.heap.size, 0, none⟩ (.string (bs s.buf.1))).setCell ⟨W2.heap.size, 1, none⟩ (.int .i64 (s.buf.2 : Int))) := (HB6.out.setCell (p := ⟨W2.heap.size, 0, none⟩) HKW.out _).setCell (p := ⟨W2.heap.size, 1, none⟩) HKW.out _
        have hkw := HKW.out
        have q5 := HSS.out _ hb5
        have y0 := HX6.out.c0
        have y1 := HX6.out.c1
        have z0 := HX6.out.f0
        have z1 := HX6.out.f1
        have HX5 := Lib.hid x5
        have HB5 := Lib.hid hb5
        clear x5 hb5
        refine lastAny_ready (rs := [9]) (by kernel_rfl) (by simp) ?_
        refine AllReadyL.cons (o := ⟨none, _, _, _, _, _⟩) rfl (fun K hK => ?_) AllReadyL.nil
        (rw [if_pos (by kernel_rfl)])
        go_simp
        refine hK.out _ _ q5 (fun hHeld => ?_)
        clear hK K
        refine lastAny_end (by kernel_rfl) rfl (by kernel_rfl) (by kernel_rfl) (fun K hK => ?_)
        go_simp
        refine hK.out _ _ ?_
        clear hK K
        go_wp2_with fail
        go_meet
        exact ⟨_, rfl, rfl, HB5.out, HX5.out, hkw⟩
    case rest =>
      obtain ⟨K, rfl, rfl, hBc, hK, hKW⟩ := hcut
      have r0 := hK.c0
      have r1 := hK.c1
      have HBC := Lib.hid hBc
      clear HSS HI kc1 hK hBc
      have hf := fin3 H.out HB2.out (Nat.le_add_right _ 1) (by have := HN2.out; omega) HD2.out HBC.out (ToF.refl (objLn.below H2.out HBC.out))
      have HF := Lib.hid hf.2
      have hd9 := hf.1
      have q0 := hd9.c 0 rfl
      have q1 := hd9.c 1 rfl
      have q2 := hd9.c 2 rfl
      have p0 := hd9.free 0
      have p1 := hd9.free 1
      have p2 := hd9.free 2
      have HD9 := Lib.hid hd9
      clear hf hd9
      go_wp2_with fail
      refine bodyPost_ret (results_bx3 rfl _ _ (w.heap.size + 1) _ _ _ 49 rfl (three_box HD9.out _ _ _) Tryd.underlying49 (szD _)) rfl ?_
      exact ⟨rfl, HF.out _ _ _⟩
end
end
end Go.Proofs.YtoaponaljkhlfaaDoor
