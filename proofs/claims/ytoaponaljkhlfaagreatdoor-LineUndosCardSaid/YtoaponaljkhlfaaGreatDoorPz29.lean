/-
  Layer 7 and what it stands on, part 29 (LnF LnG LnH Swaps LnI LnJ LnK).
-/
import Derived.Test.YtoaponaljkhlfaaGreatDoorPz28
import Derived.Deep.RegionHeld3
namespace Go.Proofs.YtoaponaljkhlfaaGreatDoor
section
open Go Go.RowKit
open Go.Lib (hid)
set_option maxRecDepth 100000
section
variable (w : World) (O F : Nat → Prop) (b : Nat) (s : LN)
set_option maxHeartbeats 4000000 in
theorem act_paste (k0 : Int) (t : List UInt8) (ht : t.length ≤ 100000) (h : LineL w O F b s) (hsp : Spans w) :
  Calls Tryz.prog 71 #[.pointer (some ⟨b, 0, none⟩), .agg #[.int .i64 k0, .string (bs t)]] w fun e w' => e = .returned (dV .none) ∧ ToLn w O F w' b ⟨ if fits s.buf (plainL t) then wrG s.log (insB s.buf (plainL t)) 0 else s.log, s.ring, s.last⟩ := by
 obtain ⟨W2, hW2, hB2, hs2, hk2, hd2⟩ := boxesA w k0 (bs t)
 have HB2 := hid hB2
 have HN2 := hid hs2
 have HD2 := hid hd2
 have H := hid h
 have H2 := hid (objLn.below h hB2)
 have HS := hid hsp
 have hrt := (line_ok h).rt.1
 have hl6 : s.buf.1.length ≤ 137438953472 := Nat.le_trans hrt.2.1 (by decide)
 have hp6 : t.length ≤ 137438953472 := Nat.le_trans ht (by decide)
 have e1 : mS s.buf.1 = s.buf.1 := hrt.make.1
 have e2 : mA s.buf.1 s.buf.2 = s.buf.2 := hrt.make.2
 have HSS : Hid (∀ W, Below W2.heap.size W2 W → W.cell? ⟨w.heap.size, 1, none⟩ = some (.string (bs t))) := hid (fun W hW => (hk2.below hW).c1)
 have kc1 := hk2.c1
 by_cases hfit : fits s.buf (plainL t)
 ·rw [if_pos hfit]
  have HI : Hid (∀ W, Spans W → Calls Tryz.prog 53 #[.agg #[.string (bs s.buf.1), .int .i64 (s.buf.2 : Int)], .string (bs t)] W fun e w' => e = .returned (.tuple #[.agg #[.string (bs (insB s.buf (plainL t)).1), .int .i64 ((insB s.buf (plainL t)).2 : Int)], .int .i64 0]) ∧ Below W.heap.size W w') := hid (fun W hS => by
   have := insert_ok s.buf.1 t s.buf.2 hl6 hp6 W hS (by rw [e1]; exact hfit)
   rwa [e1, e2] at this)
  have HR : Hid (Rt (insB s.buf (plainL t)).1 (insB s.buf (plainL t)).2) := hid (LN.insB_rt (line_ok h).rt.1 (plain_P t) hfit)
  have g1 : ((0 : Int) == 0) = true := rfl
  clear h hsp hB2 hs2 hk2 hd2 hrt hl6 hp6 e1 e2 hfit
  generalize insB s.buf (plainL t) = x at *
  go_enter Tryz.func71, Tryz.ntmps71
  go_upto_region 1 with fail
  go_cut [5, 6] from 7 (fun s5 s6 wc => ∃ K, s5 = .pointer (some ⟨K, 0, none⟩) ∧ s6 = .int .i64 0 ∧ Below W2.heap.size W2 wc ∧ Bx wc K 43 (.string (bs x.1)) (.int .i64 (x.2 : Int)) ∧ W2.heap.size ≤ K)
  case first =>
   have HBd : Hid (Below W2.heap.size W2 W2.drew) := hid (Below.refl _ W2).drew
   refine wp_region_last (S := (fun w' => w'.cell? ⟨w.heap.size, 1, none⟩ = some (.string (bs t)))) 10 (by kernel_rfl) kc1 (fun hHeld => ?_)
   refine tkL 0 ?_
   refine tkL 2 ?_
   refine tkL 3 ?_
   refine lastAny_ready (rs := [1, 8]) (by kernel_rfl) (by simp) ?_
   refine AllReadyL.cons (o := ⟨some 9, _, _, _, _, _⟩) rfl (fun K hK => ?_) (AllReadyL.cons (o := ⟨some 5, _, _, _, _, _⟩) rfl (fun K hK => ?_) AllReadyL.nil)
   ·(rw [if_pos (by kernel_rfl)])
    go_simp
    refine (buf_callsL W2.drew O F b s (objLn.below H2.out HBd.out) (spans_below HS.out (HB2.out.trans (HBd.out.mono HB2.out.size)))).mono ?_
    rintro e w4 ⟨rfl, hb⟩
    have hbn := HBd.out.trans (hb.mono HBd.out.size)
    have qn := HSS.out w4 hbn
    have HB4 := hid hbn
    clear hb hbn
    refine hK.out _ _ qn (fun hHeld => ?_)
    clear hK K qn
    refine lastAny_ready (rs := [4, 8]) (by kernel_rfl) (by simp) ?_
    refine AllReadyL.cons (o := ⟨some 12, _, _, _, _, _⟩) rfl (fun K hK => ?_) (AllReadyL.cons (o := ⟨some 5, _, _, _, _, _⟩) rfl (fun K hK => ?_) AllReadyL.nil)
    ·(rw [if_pos (by kernel_rfl)])
     go_simp
     refine (HI.out w4 (spans_below HS.out (HB2.out.trans (HB4.out.mono HB2.out.size)))).mono ?_
     rintro e w5 ⟨rfl, hb⟩
     have hbn := HB4.out.trans (hb.mono HB4.out.size)
     have qn := HSS.out w5 hbn
     have HB5 := hid hbn
     clear hb hbn
     refine hK.out _ _ qn (fun hHeld => ?_)
     clear hK K qn
     refine tkL 5 ?_
     refine tkL 6 ?_
     refine tkL 7 ?_
     refine rdL 8 fun K hK => ?_
     go_simp
     have hbn : Below W2.heap.size W2 (w5.alloc (.cells #[.string ⟨#[]⟩, .int .i64 0] 43)) := HB5.out.alloc HB5.out.size _
     have qn := HSS.out _ hbn
     have x := Bx.new w5 43 (.string ⟨#[]⟩) (.int .i64 0)
     have HKW : Hid (W2.heap.size ≤ w5.heap.size) := hid (HB5.out.size)
     have HB6 := hid hbn
     have HX6 := hid x
     clear x hbn
     refine hK.out _ _ qn (fun hHeld => ?_)
     clear hK K qn
     have x5 := Bx.new w5 43 (.string (bs x.1)) (.int .i64 (x.2 : Int))
     have hb5 : Below W2.heap.size W2 (w5.alloc (.cells #[.string (bs x.1), .int .i64 (x.2 : Int)] 43)) := HB5.out.alloc HB5.out.size _
     have hkw := HKW.out
     have q5 := HSS.out _ hb5
     have y0 := HX6.out.c0
     have y1 := HX6.out.c1
     have z0 := HX6.out.f0
     have z1 := HX6.out.f1
     have HX5 := hid x5
     have HB5 := hid hb5
     clear x5 hb5
     refine rdL 9 fun K hK => ?_
     go_simp
     refine hK.out _ _ q5 (fun hHeld => ?_)
     clear hK K
     refine enL fun K hK => ?_
     go_simp
     refine hK.out _ _ ?_
     clear hK K
     go_wp2_with fail
     go_meet
     exact ⟨_, rfl, rfl, HB5.out, HX5.out, hkw⟩
    ·(rw [if_pos (by kernel_rfl)])
     go_simp
     have hbn : Below W2.heap.size W2 (w4.alloc (.cells #[.string ⟨#[]⟩, .int .i64 0] 43)) := HB4.out.alloc HB4.out.size _
     have qn := HSS.out _ hbn
     have x := Bx.new w4 43 (.string ⟨#[]⟩) (.int .i64 0)
     have HKW : Hid (W2.heap.size ≤ w4.heap.size) := hid (HB4.out.size)
     have HB5 := hid hbn
     have HX5 := hid x
     clear x hbn
     refine hK.out _ _ qn (fun hHeld => ?_)
     clear hK K qn
     refine rdL 4 fun K hK => ?_
     go_simp
     refine (HI.out (w4.alloc (.cells #[.string ⟨#[]⟩, .int .i64 0] 43)) (spans_below HS.out (HB2.out.trans (HB5.out.mono HB2.out.size)))).mono ?_
     rintro e w6 ⟨rfl, hb⟩
     have hbn := HB5.out.trans (hb.mono HB5.out.size)
     have qn := HSS.out w6 hbn
     have HB6 := hid hbn
     have HX6 := hid (HX5.out.below hb)
     clear hb hbn
     refine hK.out _ _ qn (fun hHeld => ?_)
     clear hK K qn
     refine tkL 5 ?_
     refine tkL 6 ?_
     refine tkL 7 ?_
     have x5 := (HX6.out.set0 (.string (bs x.1))).set1 (.int .i64 (x.2 : Int))
     have hb5 : Below W2.heap.size W2 ((w6.setCell ⟨w4.heap.size, 0, none⟩ (.string (bs x.1))).setCell ⟨w4.heap.size, 1, none⟩ (.int .i64 (x.2 : Int))) := (HB6.out.setCell (p := ⟨w4.heap.size, 0, none⟩) HKW.out _).setCell (p := ⟨w4.heap.size, 1, none⟩) HKW.out _
     have hkw := HKW.out
     have q5 := HSS.out _ hb5
     have y0 := HX6.out.c0
     have y1 := HX6.out.c1
     have z0 := HX6.out.f0
     have z1 := HX6.out.f1
     have HX5 := hid x5
     have HB5 := hid hb5
     clear x5 hb5
     refine rdL 9 fun K hK => ?_
     go_simp
     refine hK.out _ _ q5 (fun hHeld => ?_)
     clear hK K
     refine enL fun K hK => ?_
     go_simp
     refine hK.out _ _ ?_
     clear hK K
     go_wp2_with fail
     go_meet
     exact ⟨_, rfl, rfl, HB5.out, HX5.out, hkw⟩
   ·(rw [if_pos (by kernel_rfl)])
    go_simp
    have hbn : Below W2.heap.size W2 (W2.drew.alloc (.cells #[.string ⟨#[]⟩, .int .i64 0] 43)) := HBd.out.alloc HBd.out.size _
    have qn := HSS.out _ hbn
    have x := Bx.new W2.drew 43 (.string ⟨#[]⟩) (.int .i64 0)
    rw [show W2.drew.heap.size = W2.heap.size from rfl] at x
    have HKW : Hid (W2.heap.size ≤ W2.heap.size) := hid (Nat.le_refl _)
    have HB4 := hid hbn
    have HX4 := hid x
    clear x hbn
    refine hK.out _ _ qn (fun hHeld => ?_)
    clear hK K qn
    refine rdL 1 fun K hK => ?_
    go_simp
    refine (buf_callsL (W2.drew.alloc (.cells #[.string ⟨#[]⟩, .int .i64 0] 43)) O F b s (objLn.below H2.out HB4.out) (spans_below HS.out (HB2.out.trans (HB4.out.mono HB2.out.size)))).mono ?_
    rintro e w5 ⟨rfl, hb⟩
    have hbn := HB4.out.trans (hb.mono HB4.out.size)
    have qn := HSS.out w5 hbn
    have HB5 := hid hbn
    have HX5 := hid (HX4.out.below hb)
    clear hb hbn
    refine hK.out _ _ qn (fun hHeld => ?_)
    clear hK K qn
    refine rdL 4 fun K hK => ?_
    go_simp
    refine (HI.out w5 (spans_below HS.out (HB2.out.trans (HB5.out.mono HB2.out.size)))).mono ?_
    rintro e w6 ⟨rfl, hb⟩
    have hbn := HB5.out.trans (hb.mono HB5.out.size)
    have qn := HSS.out w6 hbn
    have HB6 := hid hbn
    have HX6 := hid (HX5.out.below hb)
    clear hb hbn
    refine hK.out _ _ qn (fun hHeld => ?_)
    clear hK K qn
    refine tkL 5 ?_
    refine tkL 6 ?_
    refine tkL 7 ?_
    have x5 := (HX6.out.set0 (.string (bs x.1))).set1 (.int .i64 (x.2 : Int))
    have hb5 : Below W2.heap.size W2 ((w6.setCell ⟨W2.heap.size, 0, none⟩ (.string (bs x.1))).setCell ⟨W2.heap.size, 1, none⟩ (.int .i64 (x.2 : Int))) := (HB6.out.setCell (p := ⟨W2.heap.size, 0, none⟩) HKW.out _).setCell (p := ⟨W2.heap.size, 1, none⟩) HKW.out _
    have hkw := HKW.out
    have q5 := HSS.out _ hb5
    have y0 := HX6.out.c0
    have y1 := HX6.out.c1
    have z0 := HX6.out.f0
    have z1 := HX6.out.f1
    have HX5 := hid x5
    have HB5 := hid hb5
    clear x5 hb5
    refine rdL 9 fun K hK => ?_
    go_simp
    refine hK.out _ _ q5 (fun hHeld => ?_)
    clear hK K
    refine enL fun K hK => ?_
    go_simp
    refine hK.out _ _ ?_
    clear hK K
    go_wp2_with fail
    go_meet
    exact ⟨_, rfl, rfl, HB5.out, HX5.out, hkw⟩
  case rest =>
   obtain ⟨K, rfl, rfl, hBc, hK, hKW⟩ := hcut
   have r0 := hK.c0
   have r1 := hK.c1
   have HBC := hid hBc
   clear HSS HI kc1 hK hBc
   go_wp2_with fail
   refine (write_callsL wc O F b s (objLn.below H2.out HBC.out) x HR.out).mono ?_
   rintro e w8 ⟨rfl, ht8⟩
   have hf := fin3 H.out HB2.out (Nat.le_add_right _ 1) (by have := HN2.out; omega) HD2.out HBC.out ht8
   have HF := hid hf.2
   have hd9 := hf.1
   have q0 := hd9.c 0 rfl
   have q1 := hd9.c 1 rfl
   have q2 := hd9.c 2 rfl
   have p0 := hd9.free 0
   have p1 := hd9.free 1
   have p2 := hd9.free 2
   have HD9 := hid hd9
   clear hf hd9
   go_wp2_with fail
   refine bodyPost_ret (results_bx3 rfl _ _ (w.heap.size + 1) _ _ _ 60 rfl (three_box HD9.out _ _ _) Tryz.underlying60 (szD _)) rfl ?_
   exact ⟨rfl, HF.out _ _ _⟩
 ·rw [if_neg hfit]
  have HI : Hid (∀ W, Spans W → Calls Tryz.prog 53 #[.agg #[.string (bs s.buf.1), .int .i64 (s.buf.2 : Int)], .string (bs t)] W fun e w' => e = .returned (.tuple #[.agg #[.string (bs s.buf.1), .int .i64 (s.buf.2 : Int)], .int .i64 30]) ∧ Below W.heap.size W w') := hid (fun W hS => by
   have := insert_no s.buf.1 t s.buf.2 hl6 hp6 W hS (by rw [e1]; have := hfit; unfold fits at this; omega)
   rwa [e1, e2] at this)
  have g1 : ((30 : Int) == 0) = false := rfl
  clear h hsp hB2 hs2 hk2 hd2 hrt hl6 hp6 e1 e2 hfit
  go_enter Tryz.func71, Tryz.ntmps71
  go_upto_region 1 with fail
  go_cut [5, 6] from 7 (fun s5 s6 wc => ∃ K, s5 = .pointer (some ⟨K, 0, none⟩) ∧ s6 = .int .i64 30 ∧ Below W2.heap.size W2 wc ∧ Bx wc K 43 (.string (bs s.buf.1)) (.int .i64 (s.buf.2 : Int)) ∧ W2.heap.size ≤ K)
  case first =>
   have HBd : Hid (Below W2.heap.size W2 W2.drew) := hid (Below.refl _ W2).drew
   refine wp_region_last (S := (fun w' => w'.cell? ⟨w.heap.size, 1, none⟩ = some (.string (bs t)))) 10 (by kernel_rfl) kc1 (fun hHeld => ?_)
   refine tkL 0 ?_
   refine tkL 2 ?_
   refine tkL 3 ?_
   refine lastAny_ready (rs := [1, 8]) (by kernel_rfl) (by simp) ?_
   refine AllReadyL.cons (o := ⟨some 9, _, _, _, _, _⟩) rfl (fun K hK => ?_) (AllReadyL.cons (o := ⟨some 5, _, _, _, _, _⟩) rfl (fun K hK => ?_) AllReadyL.nil)
   ·(rw [if_pos (by kernel_rfl)])
    go_simp
    refine (buf_callsL W2.drew O F b s (objLn.below H2.out HBd.out) (spans_below HS.out (HB2.out.trans (HBd.out.mono HB2.out.size)))).mono ?_
    rintro e w4 ⟨rfl, hb⟩
    have hbn := HBd.out.trans (hb.mono HBd.out.size)
    have qn := HSS.out w4 hbn
    have HB4 := hid hbn
    clear hb hbn
    refine hK.out _ _ qn (fun hHeld => ?_)
    clear hK K qn
    refine lastAny_ready (rs := [4, 8]) (by kernel_rfl) (by simp) ?_
    refine AllReadyL.cons (o := ⟨some 12, _, _, _, _, _⟩) rfl (fun K hK => ?_) (AllReadyL.cons (o := ⟨some 5, _, _, _, _, _⟩) rfl (fun K hK => ?_) AllReadyL.nil)
    ·(rw [if_pos (by kernel_rfl)])
     go_simp
     refine (HI.out w4 (spans_below HS.out (HB2.out.trans (HB4.out.mono HB2.out.size)))).mono ?_
     rintro e w5 ⟨rfl, hb⟩
     have hbn := HB4.out.trans (hb.mono HB4.out.size)
     have qn := HSS.out w5 hbn
     have HB5 := hid hbn
     clear hb hbn
     refine hK.out _ _ qn (fun hHeld => ?_)
     clear hK K qn
     refine tkL 5 ?_
     refine tkL 6 ?_
     refine tkL 7 ?_
     refine rdL 8 fun K hK => ?_
     go_simp
     have hbn : Below W2.heap.size W2 (w5.alloc (.cells #[.string ⟨#[]⟩, .int .i64 0] 43)) := HB5.out.alloc HB5.out.size _
     have qn := HSS.out _ hbn
     have x := Bx.new w5 43 (.string ⟨#[]⟩) (.int .i64 0)
     have HKW : Hid (W2.heap.size ≤ w5.heap.size) := hid (HB5.out.size)
     have HB6 := hid hbn
     have HX6 := hid x
     clear x hbn
     refine hK.out _ _ qn (fun hHeld => ?_)
     clear hK K qn
     have x5 := Bx.new w5 43 (.string (bs s.buf.1)) (.int .i64 (s.buf.2 : Int))
     have hb5 : Below W2.heap.size W2 (w5.alloc (.cells #[.string (bs s.buf.1), .int .i64 (s.buf.2 : Int)] 43)) := HB5.out.alloc HB5.out.size _
     have hkw := HKW.out
     have q5 := HSS.out _ hb5
     have y0 := HX6.out.c0
     have y1 := HX6.out.c1
     have z0 := HX6.out.f0
     have z1 := HX6.out.f1
     have HX5 := hid x5
     have HB5 := hid hb5
     clear x5 hb5
     refine rdL 9 fun K hK => ?_
     go_simp
     refine hK.out _ _ q5 (fun hHeld => ?_)
     clear hK K
     refine enL fun K hK => ?_
     go_simp
     refine hK.out _ _ ?_
     clear hK K
     go_wp2_with fail
     go_meet
     exact ⟨_, rfl, rfl, HB5.out, HX5.out, hkw⟩
    ·(rw [if_pos (by kernel_rfl)])
     go_simp
     have hbn : Below W2.heap.size W2 (w4.alloc (.cells #[.string ⟨#[]⟩, .int .i64 0] 43)) := HB4.out.alloc HB4.out.size _
     have qn := HSS.out _ hbn
     have x := Bx.new w4 43 (.string ⟨#[]⟩) (.int .i64 0)
     have HKW : Hid (W2.heap.size ≤ w4.heap.size) := hid (HB4.out.size)
     have HB5 := hid hbn
     have HX5 := hid x
     clear x hbn
     refine hK.out _ _ qn (fun hHeld => ?_)
     clear hK K qn
     refine rdL 4 fun K hK => ?_
     go_simp
     refine (HI.out (w4.alloc (.cells #[.string ⟨#[]⟩, .int .i64 0] 43)) (spans_below HS.out (HB2.out.trans (HB5.out.mono HB2.out.size)))).mono ?_
     rintro e w6 ⟨rfl, hb⟩
     have hbn := HB5.out.trans (hb.mono HB5.out.size)
     have qn := HSS.out w6 hbn
     have HB6 := hid hbn
     have HX6 := hid (HX5.out.below hb)
     clear hb hbn
     refine hK.out _ _ qn (fun hHeld => ?_)
     clear hK K qn
     refine tkL 5 ?_
     refine tkL 6 ?_
     refine tkL 7 ?_
     have x5 := (HX6.out.set0 (.string (bs s.buf.1))).set1 (.int .i64 (s.buf.2 : Int))
     have hb5 : Below W2.heap.size W2 ((w6.setCell ⟨w4.heap.size, 0, none⟩ (.string (bs s.buf.1))).setCell ⟨w4.heap.size, 1, none⟩ (.int .i64 (s.buf.2 : Int))) := (HB6.out.setCell (p := ⟨w4.heap.size, 0, none⟩) HKW.out _).setCell (p := ⟨w4.heap.size, 1, none⟩) HKW.out _
     have hkw := HKW.out
     have q5 := HSS.out _ hb5
     have y0 := HX6.out.c0
     have y1 := HX6.out.c1
     have z0 := HX6.out.f0
     have z1 := HX6.out.f1
     have HX5 := hid x5
     have HB5 := hid hb5
     clear x5 hb5
     refine rdL 9 fun K hK => ?_
     go_simp
     refine hK.out _ _ q5 (fun hHeld => ?_)
     clear hK K
     refine enL fun K hK => ?_
     go_simp
     refine hK.out _ _ ?_
     clear hK K
     go_wp2_with fail
     go_meet
     exact ⟨_, rfl, rfl, HB5.out, HX5.out, hkw⟩
   ·(rw [if_pos (by kernel_rfl)])
    go_simp
    have hbn : Below W2.heap.size W2 (W2.drew.alloc (.cells #[.string ⟨#[]⟩, .int .i64 0] 43)) := HBd.out.alloc HBd.out.size _
    have qn := HSS.out _ hbn
    have x := Bx.new W2.drew 43 (.string ⟨#[]⟩) (.int .i64 0)
    rw [show W2.drew.heap.size = W2.heap.size from rfl] at x
    have HKW : Hid (W2.heap.size ≤ W2.heap.size) := hid (Nat.le_refl _)
    have HB4 := hid hbn
    have HX4 := hid x
    clear x hbn
    refine hK.out _ _ qn (fun hHeld => ?_)
    clear hK K qn
    refine rdL 1 fun K hK => ?_
    go_simp
    refine (buf_callsL (W2.drew.alloc (.cells #[.string ⟨#[]⟩, .int .i64 0] 43)) O F b s (objLn.below H2.out HB4.out) (spans_below HS.out (HB2.out.trans (HB4.out.mono HB2.out.size)))).mono ?_
    rintro e w5 ⟨rfl, hb⟩
    have hbn := HB4.out.trans (hb.mono HB4.out.size)
    have qn := HSS.out w5 hbn
    have HB5 := hid hbn
    have HX5 := hid (HX4.out.below hb)
    clear hb hbn
    refine hK.out _ _ qn (fun hHeld => ?_)
    clear hK K qn
    refine rdL 4 fun K hK => ?_
    go_simp
    refine (HI.out w5 (spans_below HS.out (HB2.out.trans (HB5.out.mono HB2.out.size)))).mono ?_
    rintro e w6 ⟨rfl, hb⟩
    have hbn := HB5.out.trans (hb.mono HB5.out.size)
    have qn := HSS.out w6 hbn
    have HB6 := hid hbn
    have HX6 := hid (HX5.out.below hb)
    clear hb hbn
    refine hK.out _ _ qn (fun hHeld => ?_)
    clear hK K qn
    refine tkL 5 ?_
    refine tkL 6 ?_
    refine tkL 7 ?_
    have x5 := (HX6.out.set0 (.string (bs s.buf.1))).set1 (.int .i64 (s.buf.2 : Int))
    have hb5 : Below W2.heap.size W2 ((w6.setCell ⟨W2.heap.size, 0, none⟩ (.string (bs s.buf.1))).setCell ⟨W2.heap.size, 1, none⟩ (.int .i64 (s.buf.2 : Int))) := (HB6.out.setCell (p := ⟨W2.heap.size, 0, none⟩) HKW.out _).setCell (p := ⟨W2.heap.size, 1, none⟩) HKW.out _
    have hkw := HKW.out
    have q5 := HSS.out _ hb5
    have y0 := HX6.out.c0
    have y1 := HX6.out.c1
    have z0 := HX6.out.f0
    have z1 := HX6.out.f1
    have HX5 := hid x5
    have HB5 := hid hb5
    clear x5 hb5
    refine rdL 9 fun K hK => ?_
    go_simp
    refine hK.out _ _ q5 (fun hHeld => ?_)
    clear hK K
    refine enL fun K hK => ?_
    go_simp
    refine hK.out _ _ ?_
    clear hK K
    go_wp2_with fail
    go_meet
    exact ⟨_, rfl, rfl, HB5.out, HX5.out, hkw⟩
  case rest =>
   obtain ⟨K, rfl, rfl, hBc, hK, hKW⟩ := hcut
   have r0 := hK.c0
   have r1 := hK.c1
   have HBC := hid hBc
   clear HSS HI kc1 hK hBc
   have hf := fin3 H.out HB2.out (Nat.le_add_right _ 1) (by have := HN2.out; omega) HD2.out HBC.out (ToF.refl (objLn.below H2.out HBC.out))
   have HF := hid hf.2
   have hd9 := hf.1
   have q0 := hd9.c 0 rfl
   have q1 := hd9.c 1 rfl
   have q2 := hd9.c 2 rfl
   have p0 := hd9.free 0
   have p1 := hd9.free 1
   have p2 := hd9.free 2
   have HD9 := hid hd9
   clear hf hd9
   go_wp2_with fail
   refine bodyPost_ret (results_bx3 rfl _ _ (w.heap.size + 1) _ _ _ 60 rfl (three_box HD9.out _ _ _) Tryz.underlying60 (szD _)) rfl ?_
   exact ⟨rfl, HF.out _ _ _⟩
end
end
section
open Go Go.RowKit
set_option maxRecDepth 100000
set_option maxHeartbeats 2000000 in
theorem word_callsL (t : List UInt8) (ht : t.length ≤ 100000) (w : World) (hsp : Spans w) :
  Calls Tryz.prog 107 #[.string (bs t)] w fun e w' => e = .returned (.bool (wordT t)) ∧ Below w.heap.size w w' := by
 have HP := Lib.hid (plain_calls t (Nat.le_trans ht (by decide)) w)
 have hpl := plain_length t
 have HS := Lib.hid hsp
 unfold wordT
 clear hsp
 generalize plainL t = p at *
 by_cases hp : p = []
 ·subst hp
  rw [show decide (([] : List UInt8) ≠ []) = false from rfl, Bool.false_and]
  clear hpl
  go_enter Tryz.func107, Tryz.ntmps107
  go_wp2_with fail
  refine HP.out.mono ?_
  rintro e w2 ⟨rfl, hb2⟩
  have hq : (bs ([] : List UInt8)) = (⟨#[]⟩ : ByteArray) := rfl
  rw [hq]
  go_wp2_with fail
  go_ret
  exact ⟨rfl, hb2⟩
 ·rw [decide_eq_true hp, Bool.true_and]
  have HW := Lib.hid (fun W hS => wordRight_calls (p ++ [32]) 0 (by rw [List.length_append]; simp; omega) W hS)
  generalize wrL (mS (p ++ [32])) (mA (p ++ [32]) 0) = v at *
  have hde : decide (v = p.length) = ((v : Int) == (p.length : Int)) := by
   by_cases hv : v = p.length
   ·rw [decide_eq_true hv, hv, beq_self_eq_true]
   ·rw [decide_eq_false hv, beq_eq_false_iff_ne.2 (by omega)]
  rw [hde]
  clear hde
  have hne : p.isEmpty = false := by cases p with
   | nil => exact absurd rfl hp
   | cons x l => rfl
  have hadd := fun W => add_bs Tryz.prog p [32] (by simp; omega) W
  have hsz := bs_size p
  go_enter Tryz.func107, Tryz.ntmps107
  go_wp2_with fail
  refine HP.out.mono ?_
  rintro e w2 ⟨rfl, hb2⟩
  go_wp2_with fail
  refine (HW.out w2 (spans_below HS.out hb2)).mono ?_
  rintro e w3 ⟨rfl, hb3⟩
  have hB := hb2.trans (hb3.mono hb2.size)
  clear hb2 hb3
  go_wp2_with fail
  go_ret
  exact ⟨rfl, hB⟩
end
section
open Go Go.RowKit
open Go.Lib (hid)
set_option maxRecDepth 100000
section
variable (w : World) (O F : Nat → Prop) (b : Nat) (s : LN)
set_option maxHeartbeats 4000000 in
theorem act_sign (k0 : Int) (t : List UInt8) (ht : t.length ≤ 100000) (h : LineL w O F b s) (hsp : Spans w) :
  Calls Tryz.prog 70 #[.pointer (some ⟨b, 0, none⟩), .agg #[.int .i64 k0, .string (bs t)]] w fun e w' => e = .returned (dV .none) ∧ ToLn w O F w' b ⟨ if fits s.buf (plainL t) then wrG s.log (insB s.buf (plainL t)) (if wordT t then 1 else 0) else s.log, s.ring, s.last⟩ := by
 obtain ⟨W2, hW2, hB2, hs2, hk2, hd2⟩ := boxesA w k0 (bs t)
 have HB2 := hid hB2
 have HN2 := hid hs2
 have HD2 := hid hd2
 have H := hid h
 have H2 := hid (objLn.below h hB2)
 have HS := hid hsp
 have hrt := (line_ok h).rt.1
 have hl6 : s.buf.1.length ≤ 137438953472 := Nat.le_trans hrt.2.1 (by decide)
 have hp6 : t.length ≤ 137438953472 := Nat.le_trans ht (by decide)
 have e1 : mS s.buf.1 = s.buf.1 := hrt.make.1
 have e2 : mA s.buf.1 s.buf.2 = s.buf.2 := hrt.make.2
 have HSS : Hid (∀ W, Below W2.heap.size W2 W → W.cell? ⟨w.heap.size, 1, none⟩ = some (.string (bs t))) := hid (fun W hW => (hk2.below hW).c1)
 have kc1 := hk2.c1
 by_cases hfit : fits s.buf (plainL t)
 ·rw [if_pos hfit]
  by_cases hword : wordT t = true
  ·rw [hword, if_pos rfl]
   have HI : Hid (∀ W, Spans W → Calls Tryz.prog 53 #[.agg #[.string (bs s.buf.1), .int .i64 (s.buf.2 : Int)], .string (bs t)] W fun e w' => e = .returned (.tuple #[.agg #[.string (bs (insB s.buf (plainL t)).1), .int .i64 ((insB s.buf (plainL t)).2 : Int)], .int .i64 0]) ∧ Below W.heap.size W w') := hid (fun W hS => by
    have := insert_ok s.buf.1 t s.buf.2 hl6 hp6 W hS (by rw [e1]; exact hfit)
    rwa [e1, e2] at this)
   have HR : Hid (Rt (insB s.buf (plainL t)).1 (insB s.buf (plainL t)).2) := hid (LN.insB_rt (line_ok h).rt.1 (plain_P t) hfit)
   have g1 : ((0 : Int) != 0) = false := rfl
   have HWd := hid (fun W hS => word_callsL t ht W hS)
   rw [hword] at HWd
   clear h hsp hB2 hs2 hk2 hd2 hrt hl6 hp6 e1 e2 hfit hword
   generalize insB s.buf (plainL t) = x at *
   go_enter Tryz.func70, Tryz.ntmps70
   go_upto_region 1 with fail
   go_cut [5, 6] from 7 (fun s5 s6 wc => ∃ K, s5 = .pointer (some ⟨K, 0, none⟩) ∧ s6 = .int .i64 0 ∧ Below W2.heap.size W2 wc ∧ Bx wc K 43 (.string (bs x.1)) (.int .i64 (x.2 : Int)) ∧ W2.heap.size ≤ K)
   case first =>
    have HBd : Hid (Below W2.heap.size W2 W2.drew) := hid (Below.refl _ W2).drew
    refine wp_region_last (S := (fun w' => w'.cell? ⟨w.heap.size, 1, none⟩ = some (.string (bs t)))) 10 (by kernel_rfl) kc1 (fun hHeld => ?_)
    refine tkL 0 ?_
    refine tkL 2 ?_
    refine tkL 3 ?_
    refine lastAny_ready (rs := [1, 8]) (by kernel_rfl) (by simp) ?_
    refine AllReadyL.cons (o := ⟨some 9, _, _, _, _, _⟩) rfl (fun K hK => ?_) (AllReadyL.cons (o := ⟨some 5, _, _, _, _, _⟩) rfl (fun K hK => ?_) AllReadyL.nil)
    ·(rw [if_pos (by kernel_rfl)])
     go_simp
     refine (buf_callsL W2.drew O F b s (objLn.below H2.out HBd.out) (spans_below HS.out (HB2.out.trans (HBd.out.mono HB2.out.size)))).mono ?_
     rintro e w4 ⟨rfl, hb⟩
     have hbn := HBd.out.trans (hb.mono HBd.out.size)
     have qn := HSS.out w4 hbn
     have HB4 := hid hbn
     clear hb hbn
     refine hK.out _ _ qn (fun hHeld => ?_)
     clear hK K qn
     refine lastAny_ready (rs := [4, 8]) (by kernel_rfl) (by simp) ?_
     refine AllReadyL.cons (o := ⟨some 12, _, _, _, _, _⟩) rfl (fun K hK => ?_) (AllReadyL.cons (o := ⟨some 5, _, _, _, _, _⟩) rfl (fun K hK => ?_) AllReadyL.nil)
     ·(rw [if_pos (by kernel_rfl)])
      go_simp
      refine (HI.out w4 (spans_below HS.out (HB2.out.trans (HB4.out.mono HB2.out.size)))).mono ?_
      rintro e w5 ⟨rfl, hb⟩
      have hbn := HB4.out.trans (hb.mono HB4.out.size)
      have qn := HSS.out w5 hbn
      have HB5 := hid hbn
      clear hb hbn
      refine hK.out _ _ qn (fun hHeld => ?_)
      clear hK K qn
      refine tkL 5 ?_
      refine tkL 6 ?_
      refine tkL 7 ?_
      refine rdL 8 fun K hK => ?_
      go_simp
      have hbn : Below W2.heap.size W2 (w5.alloc (.cells #[.string ⟨#[]⟩, .int .i64 0] 43)) := HB5.out.alloc HB5.out.size _
      have qn := HSS.out _ hbn
      have x := Bx.new w5 43 (.string ⟨#[]⟩) (.int .i64 0)
      have HKW : Hid (W2.heap.size ≤ w5.heap.size) := hid (HB5.out.size)
      have HB6 := hid hbn
      have HX6 := hid x
      clear x hbn
      refine hK.out _ _ qn (fun hHeld => ?_)
      clear hK K qn
      have x5 := Bx.new w5 43 (.string (bs x.1)) (.int .i64 (x.2 : Int))
      have hb5 : Below W2.heap.size W2 (w5.alloc (.cells #[.string (bs x.1), .int .i64 (x.2 : Int)] 43)) := HB5.out.alloc HB5.out.size _
      have hkw := HKW.out
      have q5 := HSS.out _ hb5
      have y0 := HX6.out.c0
      have y1 := HX6.out.c1
      have z0 := HX6.out.f0
      have z1 := HX6.out.f1
      have HX5 := hid x5
      have HB5 := hid hb5
      clear x5 hb5
      refine rdL 9 fun K hK => ?_
      go_simp
      refine hK.out _ _ q5 (fun hHeld => ?_)
      clear hK K
      refine enL fun K hK => ?_
      go_simp
      refine hK.out _ _ ?_
      clear hK K
      go_wp2_with fail
      go_meet
      exact ⟨_, rfl, rfl, HB5.out, HX5.out, hkw⟩
     ·(rw [if_pos (by kernel_rfl)])
      go_simp
      have hbn : Below W2.heap.size W2 (w4.alloc (.cells #[.string ⟨#[]⟩, .int .i64 0] 43)) := HB4.out.alloc HB4.out.size _
      have qn := HSS.out _ hbn
      have x := Bx.new w4 43 (.string ⟨#[]⟩) (.int .i64 0)
      have HKW : Hid (W2.heap.size ≤ w4.heap.size) := hid (HB4.out.size)
      have HB5 := hid hbn
      have HX5 := hid x
      clear x hbn
      refine hK.out _ _ qn (fun hHeld => ?_)
      clear hK K qn
      refine rdL 4 fun K hK => ?_
      go_simp
      refine (HI.out (w4.alloc (.cells #[.string ⟨#[]⟩, .int .i64 0] 43)) (spans_below HS.out (HB2.out.trans (HB5.out.mono HB2.out.size)))).mono ?_
      rintro e w6 ⟨rfl, hb⟩
      have hbn := HB5.out.trans (hb.mono HB5.out.size)
      have qn := HSS.out w6 hbn
      have HB6 := hid hbn
      have HX6 := hid (HX5.out.below hb)
      clear hb hbn
      refine hK.out _ _ qn (fun hHeld => ?_)
      clear hK K qn
      refine tkL 5 ?_
      refine tkL 6 ?_
      refine tkL 7 ?_
      have x5 := (HX6.out.set0 (.string (bs x.1))).set1 (.int .i64 (x.2 : Int))
      have hb5 : Below W2.heap.size W2 ((w6.setCell ⟨w4.heap.size, 0, none⟩ (.string (bs x.1))).setCell ⟨w4.heap.size, 1, none⟩ (.int .i64 (x.2 : Int))) := (HB6.out.setCell (p := ⟨w4.heap.size, 0, none⟩) HKW.out _).setCell (p := ⟨w4.heap.size, 1, none⟩) HKW.out _
      have hkw := HKW.out
      have q5 := HSS.out _ hb5
      have y0 := HX6.out.c0
      have y1 := HX6.out.c1
      have z0 := HX6.out.f0
      have z1 := HX6.out.f1
      have HX5 := hid x5
      have HB5 := hid hb5
      clear x5 hb5
      refine rdL 9 fun K hK => ?_
      go_simp
      refine hK.out _ _ q5 (fun hHeld => ?_)
      clear hK K
      refine enL fun K hK => ?_
      go_simp
      refine hK.out _ _ ?_
      clear hK K
      go_wp2_with fail
      go_meet
      exact ⟨_, rfl, rfl, HB5.out, HX5.out, hkw⟩
    ·(rw [if_pos (by kernel_rfl)])
     go_simp
     have hbn : Below W2.heap.size W2 (W2.drew.alloc (.cells #[.string ⟨#[]⟩, .int .i64 0] 43)) := HBd.out.alloc HBd.out.size _
     have qn := HSS.out _ hbn
     have x := Bx.new W2.drew 43 (.string ⟨#[]⟩) (.int .i64 0)
     rw [show W2.drew.heap.size = W2.heap.size from rfl] at x
     have HKW : Hid (W2.heap.size ≤ W2.heap.size) := hid (Nat.le_refl _)
     have HB4 := hid hbn
     have HX4 := hid x
     clear x hbn
     refine hK.out _ _ qn (fun hHeld => ?_)
     clear hK K qn
     refine rdL 1 fun K hK => ?_
     go_simp
     refine (buf_callsL (W2.drew.alloc (.cells #[.string ⟨#[]⟩, .int .i64 0] 43)) O F b s (objLn.below H2.out HB4.out) (spans_below HS.out (HB2.out.trans (HB4.out.mono HB2.out.size)))).mono ?_
     rintro e w5 ⟨rfl, hb⟩
     have hbn := HB4.out.trans (hb.mono HB4.out.size)
     have qn := HSS.out w5 hbn
     have HB5 := hid hbn
     have HX5 := hid (HX4.out.below hb)
     clear hb hbn
     refine hK.out _ _ qn (fun hHeld => ?_)
     clear hK K qn
     refine rdL 4 fun K hK => ?_
     go_simp
     refine (HI.out w5 (spans_below HS.out (HB2.out.trans (HB5.out.mono HB2.out.size)))).mono ?_
     rintro e w6 ⟨rfl, hb⟩
     have hbn := HB5.out.trans (hb.mono HB5.out.size)
     have qn := HSS.out w6 hbn
     have HB6 := hid hbn
     have HX6 := hid (HX5.out.below hb)
     clear hb hbn
     refine hK.out _ _ qn (fun hHeld => ?_)
     clear hK K qn
     refine tkL 5 ?_
     refine tkL 6 ?_
     refine tkL 7 ?_
     have x5 := (HX6.out.set0 (.string (bs x.1))).set1 (.int .i64 (x.2 : Int))
     have hb5 : Below W2.heap.size W2 ((w6.setCell ⟨W2.heap.size, 0, none⟩ (.string (bs x.1))).setCell ⟨W2.heap.size, 1, none⟩ (.int .i64 (x.2 : Int))) := (HB6.out.setCell (p := ⟨W2.heap.size, 0, none⟩) HKW.out _).setCell (p := ⟨W2.heap.size, 1, none⟩) HKW.out _
     have hkw := HKW.out
     have q5 := HSS.out _ hb5
     have y0 := HX6.out.c0
     have y1 := HX6.out.c1
     have z0 := HX6.out.f0
     have z1 := HX6.out.f1
     have HX5 := hid x5
     have HB5 := hid hb5
     clear x5 hb5
     refine rdL 9 fun K hK => ?_
     go_simp
     refine hK.out _ _ q5 (fun hHeld => ?_)
     clear hK K
     refine enL fun K hK => ?_
     go_simp
     refine hK.out _ _ ?_
     clear hK K
     go_wp2_with fail
     go_meet
     exact ⟨_, rfl, rfl, HB5.out, HX5.out, hkw⟩
   case rest =>
    obtain ⟨K, rfl, rfl, hBc, hK, hKW⟩ := hcut
    have r0 := hK.c0
    have r1 := hK.c1
    have HBC := hid hBc
    have kc := HSS.out wc hBc
    have HK := hid hK
    clear HSS HI kc1 hK hBc
    go_wp2_with fail
    refine (HWd.out wc (spans_below HS.out (HB2.out.trans (HBC.out.mono HB2.out.size)))).mono ?_
    rintro e w5 ⟨rfl, hb5⟩
    have HB5 := hid (HBC.out.trans (hb5.mono HBC.out.size))
    have k5 := HK.out.below hb5
    have u0 := k5.c0
    have u1 := k5.c1
    have HK5 := hid k5
    clear hb5 k5 r0 r1 HWd
    obtain ⟨g, r, Rl, Rr, hA⟩ := objLn.below H2.out HB5.out
    have hbg := hA.bg
    have hkg : K ≠ g := fun e => by
     obtain ⟨g2, r2, Rl2, Rr2, h2⟩ := H2.out
     have h3 := hA.log.lt g hA.log.ins
     have h4 := (hA.hO g).2 (.inr (.inl rfl))
     have h5 := objLn.lt H2.out g (.inl h4)
     omega
    have c0 := hA.box.c 0 rfl
    have HA := hid (hA.below (Below.refl _ w5).drew)
    have HDo := hid (do_callsB w5.drew Rl g s.log (objB.below hA.log (Below.refl _ w5).drew) x 1)
    have HSS : Hid (∀ w' : World, Only (fun k => k = g) w5.drew w' → w'.cell? ⟨b, 0, none⟩ = some (.pointer (some ⟨g, 0, none⟩)) ∧ w'.cell? ⟨K, 0, none⟩ = some (.string (bs x.1)) ∧ w'.cell? ⟨K, 1, none⟩ = some (.int .i64 (x.2 : Int))) := hid (fun w' ho => ⟨((hA.box.below (Below.refl _ w5).drew).keep ho hbg).c 0 rfl, ho.cell (Bx.below HK5.out (Below.refl _ w5).drew).c0 hkg, ho.cell (Bx.below HK5.out (Below.refl _ w5).drew).c1 hkg⟩)
    unfold bufV at HDo
    clear hA hbg hkg
    go_upto_region 5 with fail
    refine wp_region_held_drew (S := (fun w' => w'.cell? ⟨b, 0, none⟩ = some (.pointer (some ⟨g, 0, none⟩)) ∧ w'.cell? ⟨K, 0, none⟩ = some (.string (bs x.1)) ∧ w'.cell? ⟨K, 1, none⟩ = some (.int .i64 (x.2 : Int)))) (by kernel_rfl) ⟨c0, u0, u1⟩ (fun hHeld => ?_)
    refine tkH 0 ?_
    refine tkH 1 ?_
    refine tkH 2 ?_
    refine tkH 3 ?_
    refine tkH 4 ?_
    refine rdH 5 fun K hK => ?_
    go_simp
    refine HDo.out.mono ?_
    rintro e w8 ⟨rfl, htb⟩
    have hS := HSS.out w8 (by obtain ⟨_, _, ho, _⟩ := htb; exact ho)
    have ht8 : ToLn w5.drew O F w8 b ⟨s.log.does x 1, s.ring, s.last⟩ := HA.out.log_to htb ⟨HA.out.ok.log.does x 1, (LN.does_lim _ _ _).trans HA.out.ok.lim, HA.out.ok.rt.does HR.out 1, HA.out.ok.ring, HA.out.ok.rlim⟩
    rw [show s.log.does x 1 = wrG s.log x 1 from (if_neg (by decide)).symm] at ht8
    have HT8 := hid ht8
    have HBd := hid HB5.out.drew
    clear htb ht8 HDo HSS
    refine hK.out _ _ hS (fun hHeld => ?_)
    clear hK K
    refine wpAnyH_done (by kernel_rfl) ?_ _
    have ht8 := HT8.out
    have hf := fin3 H.out HB2.out (Nat.le_add_right _ 1) (by have := HN2.out; omega) HD2.out HBd.out ht8
    have HF := hid hf.2
    have hd9 := hf.1
    have q0 := hd9.c 0 rfl
    have q1 := hd9.c 1 rfl
    have q2 := hd9.c 2 rfl
    have p0 := hd9.free 0
    have p1 := hd9.free 1
    have p2 := hd9.free 2
    have HD9 := hid hd9
    clear hf hd9
    go_wp2_with fail
    refine bodyPost_ret (results_bx3 rfl _ _ (w.heap.size + 1) _ _ _ 60 rfl (three_box HD9.out _ _ _) Tryz.underlying60 (szD _)) rfl ?_
    exact ⟨rfl, HF.out _ _ _⟩
  ·replace hword : wordT t = false := by simpa using hword
   rw [hword, if_neg Bool.false_ne_true]
   have HI : Hid (∀ W, Spans W → Calls Tryz.prog 53 #[.agg #[.string (bs s.buf.1), .int .i64 (s.buf.2 : Int)], .string (bs t)] W fun e w' => e = .returned (.tuple #[.agg #[.string (bs (insB s.buf (plainL t)).1), .int .i64 ((insB s.buf (plainL t)).2 : Int)], .int .i64 0]) ∧ Below W.heap.size W w') := hid (fun W hS => by
    have := insert_ok s.buf.1 t s.buf.2 hl6 hp6 W hS (by rw [e1]; exact hfit)
    rwa [e1, e2] at this)
   have HR : Hid (Rt (insB s.buf (plainL t)).1 (insB s.buf (plainL t)).2) := hid (LN.insB_rt (line_ok h).rt.1 (plain_P t) hfit)
   have g1 : ((0 : Int) != 0) = false := rfl
   have HWd := hid (fun W hS => word_callsL t ht W hS)
   rw [hword] at HWd
   clear h hsp hB2 hs2 hk2 hd2 hrt hl6 hp6 e1 e2 hfit hword
   generalize insB s.buf (plainL t) = x at *
   go_enter Tryz.func70, Tryz.ntmps70
   go_upto_region 1 with fail
   go_cut [5, 6] from 7 (fun s5 s6 wc => ∃ K, s5 = .pointer (some ⟨K, 0, none⟩) ∧ s6 = .int .i64 0 ∧ Below W2.heap.size W2 wc ∧ Bx wc K 43 (.string (bs x.1)) (.int .i64 (x.2 : Int)) ∧ W2.heap.size ≤ K)
   case first =>
    have HBd : Hid (Below W2.heap.size W2 W2.drew) := hid (Below.refl _ W2).drew
    refine wp_region_last (S := (fun w' => w'.cell? ⟨w.heap.size, 1, none⟩ = some (.string (bs t)))) 10 (by kernel_rfl) kc1 (fun hHeld => ?_)
    refine tkL 0 ?_
    refine tkL 2 ?_
    refine tkL 3 ?_
    refine lastAny_ready (rs := [1, 8]) (by kernel_rfl) (by simp) ?_
    refine AllReadyL.cons (o := ⟨some 9, _, _, _, _, _⟩) rfl (fun K hK => ?_) (AllReadyL.cons (o := ⟨some 5, _, _, _, _, _⟩) rfl (fun K hK => ?_) AllReadyL.nil)
    ·(rw [if_pos (by kernel_rfl)])
     go_simp
     refine (buf_callsL W2.drew O F b s (objLn.below H2.out HBd.out) (spans_below HS.out (HB2.out.trans (HBd.out.mono HB2.out.size)))).mono ?_
     rintro e w4 ⟨rfl, hb⟩
     have hbn := HBd.out.trans (hb.mono HBd.out.size)
     have qn := HSS.out w4 hbn
     have HB4 := hid hbn
     clear hb hbn
     refine hK.out _ _ qn (fun hHeld => ?_)
     clear hK K qn
     refine lastAny_ready (rs := [4, 8]) (by kernel_rfl) (by simp) ?_
     refine AllReadyL.cons (o := ⟨some 12, _, _, _, _, _⟩) rfl (fun K hK => ?_) (AllReadyL.cons (o := ⟨some 5, _, _, _, _, _⟩) rfl (fun K hK => ?_) AllReadyL.nil)
     ·(rw [if_pos (by kernel_rfl)])
      go_simp
      refine (HI.out w4 (spans_below HS.out (HB2.out.trans (HB4.out.mono HB2.out.size)))).mono ?_
      rintro e w5 ⟨rfl, hb⟩
      have hbn := HB4.out.trans (hb.mono HB4.out.size)
      have qn := HSS.out w5 hbn
      have HB5 := hid hbn
      clear hb hbn
      refine hK.out _ _ qn (fun hHeld => ?_)
      clear hK K qn
      refine tkL 5 ?_
      refine tkL 6 ?_
      refine tkL 7 ?_
      refine rdL 8 fun K hK => ?_
      go_simp
      have hbn : Below W2.heap.size W2 (w5.alloc (.cells #[.string ⟨#[]⟩, .int .i64 0] 43)) := HB5.out.alloc HB5.out.size _
      have qn := HSS.out _ hbn
      have x := Bx.new w5 43 (.string ⟨#[]⟩) (.int .i64 0)
      have HKW : Hid (W2.heap.size ≤ w5.heap.size) := hid (HB5.out.size)
      have HB6 := hid hbn
      have HX6 := hid x
      clear x hbn
      refine hK.out _ _ qn (fun hHeld => ?_)
      clear hK K qn
      have x5 := Bx.new w5 43 (.string (bs x.1)) (.int .i64 (x.2 : Int))
      have hb5 : Below W2.heap.size W2 (w5.alloc (.cells #[.string (bs x.1), .int .i64 (x.2 : Int)] 43)) := HB5.out.alloc HB5.out.size _
      have hkw := HKW.out
      have q5 := HSS.out _ hb5
      have y0 := HX6.out.c0
      have y1 := HX6.out.c1
      have z0 := HX6.out.f0
      have z1 := HX6.out.f1
      have HX5 := hid x5
      have HB5 := hid hb5
      clear x5 hb5
      refine rdL 9 fun K hK => ?_
      go_simp
      refine hK.out _ _ q5 (fun hHeld => ?_)
      clear hK K
      refine enL fun K hK => ?_
      go_simp
      refine hK.out _ _ ?_
      clear hK K
      go_wp2_with fail
      go_meet
      exact ⟨_, rfl, rfl, HB5.out, HX5.out, hkw⟩
     ·(rw [if_pos (by kernel_rfl)])
      go_simp
      have hbn : Below W2.heap.size W2 (w4.alloc (.cells #[.string ⟨#[]⟩, .int .i64 0] 43)) := HB4.out.alloc HB4.out.size _
      have qn := HSS.out _ hbn
      have x := Bx.new w4 43 (.string ⟨#[]⟩) (.int .i64 0)
      have HKW : Hid (W2.heap.size ≤ w4.heap.size) := hid (HB4.out.size)
      have HB5 := hid hbn
      have HX5 := hid x
      clear x hbn
      refine hK.out _ _ qn (fun hHeld => ?_)
      clear hK K qn
      refine rdL 4 fun K hK => ?_
      go_simp
      refine (HI.out (w4.alloc (.cells #[.string ⟨#[]⟩, .int .i64 0] 43)) (spans_below HS.out (HB2.out.trans (HB5.out.mono HB2.out.size)))).mono ?_
      rintro e w6 ⟨rfl, hb⟩
      have hbn := HB5.out.trans (hb.mono HB5.out.size)
      have qn := HSS.out w6 hbn
      have HB6 := hid hbn
      have HX6 := hid (HX5.out.below hb)
      clear hb hbn
      refine hK.out _ _ qn (fun hHeld => ?_)
      clear hK K qn
      refine tkL 5 ?_
      refine tkL 6 ?_
      refine tkL 7 ?_
      have x5 := (HX6.out.set0 (.string (bs x.1))).set1 (.int .i64 (x.2 : Int))
      have hb5 : Below W2.heap.size W2 ((w6.setCell ⟨w4.heap.size, 0, none⟩ (.string (bs x.1))).setCell ⟨w4.heap.size, 1, none⟩ (.int .i64 (x.2 : Int))) := (HB6.out.setCell (p := ⟨w4.heap.size, 0, none⟩) HKW.out _).setCell (p := ⟨w4.heap.size, 1, none⟩) HKW.out _
      have hkw := HKW.out
      have q5 := HSS.out _ hb5
      have y0 := HX6.out.c0
      have y1 := HX6.out.c1
      have z0 := HX6.out.f0
      have z1 := HX6.out.f1
      have HX5 := hid x5
      have HB5 := hid hb5
      clear x5 hb5
      refine rdL 9 fun K hK => ?_
      go_simp
      refine hK.out _ _ q5 (fun hHeld => ?_)
      clear hK K
      refine enL fun K hK => ?_
      go_simp
      refine hK.out _ _ ?_
      clear hK K
      go_wp2_with fail
      go_meet
      exact ⟨_, rfl, rfl, HB5.out, HX5.out, hkw⟩
    ·(rw [if_pos (by kernel_rfl)])
     go_simp
     have hbn : Below W2.heap.size W2 (W2.drew.alloc (.cells #[.string ⟨#[]⟩, .int .i64 0] 43)) := HBd.out.alloc HBd.out.size _
     have qn := HSS.out _ hbn
     have x := Bx.new W2.drew 43 (.string ⟨#[]⟩) (.int .i64 0)
     rw [show W2.drew.heap.size = W2.heap.size from rfl] at x
     have HKW : Hid (W2.heap.size ≤ W2.heap.size) := hid (Nat.le_refl _)
     have HB4 := hid hbn
     have HX4 := hid x
     clear x hbn
     refine hK.out _ _ qn (fun hHeld => ?_)
     clear hK K qn
     refine rdL 1 fun K hK => ?_
     go_simp
     refine (buf_callsL (W2.drew.alloc (.cells #[.string ⟨#[]⟩, .int .i64 0] 43)) O F b s (objLn.below H2.out HB4.out) (spans_below HS.out (HB2.out.trans (HB4.out.mono HB2.out.size)))).mono ?_
     rintro e w5 ⟨rfl, hb⟩
     have hbn := HB4.out.trans (hb.mono HB4.out.size)
     have qn := HSS.out w5 hbn
     have HB5 := hid hbn
     have HX5 := hid (HX4.out.below hb)
     clear hb hbn
     refine hK.out _ _ qn (fun hHeld => ?_)
     clear hK K qn
     refine rdL 4 fun K hK => ?_
     go_simp
     refine (HI.out w5 (spans_below HS.out (HB2.out.trans (HB5.out.mono HB2.out.size)))).mono ?_
     rintro e w6 ⟨rfl, hb⟩
     have hbn := HB5.out.trans (hb.mono HB5.out.size)
     have qn := HSS.out w6 hbn
     have HB6 := hid hbn
     have HX6 := hid (HX5.out.below hb)
     clear hb hbn
     refine hK.out _ _ qn (fun hHeld => ?_)
     clear hK K qn
     refine tkL 5 ?_
     refine tkL 6 ?_
     refine tkL 7 ?_
     have x5 := (HX6.out.set0 (.string (bs x.1))).set1 (.int .i64 (x.2 : Int))
     have hb5 : Below W2.heap.size W2 ((w6.setCell ⟨W2.heap.size, 0, none⟩ (.string (bs x.1))).setCell ⟨W2.heap.size, 1, none⟩ (.int .i64 (x.2 : Int))) := (HB6.out.setCell (p := ⟨W2.heap.size, 0, none⟩) HKW.out _).setCell (p := ⟨W2.heap.size, 1, none⟩) HKW.out _
     have hkw := HKW.out
     have q5 := HSS.out _ hb5
     have y0 := HX6.out.c0
     have y1 := HX6.out.c1
     have z0 := HX6.out.f0
     have z1 := HX6.out.f1
     have HX5 := hid x5
     have HB5 := hid hb5
     clear x5 hb5
     refine rdL 9 fun K hK => ?_
     go_simp
     refine hK.out _ _ q5 (fun hHeld => ?_)
     clear hK K
     refine enL fun K hK => ?_
     go_simp
     refine hK.out _ _ ?_
     clear hK K
     go_wp2_with fail
     go_meet
     exact ⟨_, rfl, rfl, HB5.out, HX5.out, hkw⟩
   case rest =>
    obtain ⟨K, rfl, rfl, hBc, hK, hKW⟩ := hcut
    have r0 := hK.c0
    have r1 := hK.c1
    have HBC := hid hBc
    have kc := HSS.out wc hBc
    have HK := hid hK
    clear HSS HI kc1 hK hBc
    go_wp2_with fail
    refine (HWd.out wc (spans_below HS.out (HB2.out.trans (HBC.out.mono HB2.out.size)))).mono ?_
    rintro e w5 ⟨rfl, hb5⟩
    have HB5 := hid (HBC.out.trans (hb5.mono HBC.out.size))
    have k5 := HK.out.below hb5
    have u0 := k5.c0
    have u1 := k5.c1
    have HK5 := hid k5
    clear hb5 k5 r0 r1 HWd
    go_wp2_with fail
    refine (write_callsL w5 O F b s (objLn.below H2.out HB5.out) x HR.out).mono ?_
    rintro e w8 ⟨rfl, ht8⟩
    have hf := fin3 H.out HB2.out (Nat.le_add_right _ 1) (by have := HN2.out; omega) HD2.out HB5.out ht8
    have HF := hid hf.2
    have hd9 := hf.1
    have q0 := hd9.c 0 rfl
    have q1 := hd9.c 1 rfl
    have q2 := hd9.c 2 rfl
    have p0 := hd9.free 0
    have p1 := hd9.free 1
    have p2 := hd9.free 2
    have HD9 := hid hd9
    clear hf hd9
    go_wp2_with fail
    refine bodyPost_ret (results_bx3 rfl _ _ (w.heap.size + 1) _ _ _ 60 rfl (three_box HD9.out _ _ _) Tryz.underlying60 (szD _)) rfl ?_
    exact ⟨rfl, HF.out _ _ _⟩
 ·rw [if_neg hfit]
  have HI : Hid (∀ W, Spans W → Calls Tryz.prog 53 #[.agg #[.string (bs s.buf.1), .int .i64 (s.buf.2 : Int)], .string (bs t)] W fun e w' => e = .returned (.tuple #[.agg #[.string (bs s.buf.1), .int .i64 (s.buf.2 : Int)], .int .i64 30]) ∧ Below W.heap.size W w') := hid (fun W hS => by
   have := insert_no s.buf.1 t s.buf.2 hl6 hp6 W hS (by rw [e1]; have := hfit; unfold fits at this; omega)
   rwa [e1, e2] at this)
  have g1 : ((30 : Int) != 0) = true := rfl
  clear h hsp hB2 hs2 hk2 hd2 hrt hl6 hp6 e1 e2 hfit
  go_enter Tryz.func70, Tryz.ntmps70
  go_upto_region 1 with fail
  go_cut [5, 6] from 7 (fun s5 s6 wc => ∃ K, s5 = .pointer (some ⟨K, 0, none⟩) ∧ s6 = .int .i64 30 ∧ Below W2.heap.size W2 wc ∧ Bx wc K 43 (.string (bs s.buf.1)) (.int .i64 (s.buf.2 : Int)) ∧ W2.heap.size ≤ K)
  case first =>
   have HBd : Hid (Below W2.heap.size W2 W2.drew) := hid (Below.refl _ W2).drew
   refine wp_region_last (S := (fun w' => w'.cell? ⟨w.heap.size, 1, none⟩ = some (.string (bs t)))) 10 (by kernel_rfl) kc1 (fun hHeld => ?_)
   refine tkL 0 ?_
   refine tkL 2 ?_
   refine tkL 3 ?_
   refine lastAny_ready (rs := [1, 8]) (by kernel_rfl) (by simp) ?_
   refine AllReadyL.cons (o := ⟨some 9, _, _, _, _, _⟩) rfl (fun K hK => ?_) (AllReadyL.cons (o := ⟨some 5, _, _, _, _, _⟩) rfl (fun K hK => ?_) AllReadyL.nil)
   ·(rw [if_pos (by kernel_rfl)])
    go_simp
    refine (buf_callsL W2.drew O F b s (objLn.below H2.out HBd.out) (spans_below HS.out (HB2.out.trans (HBd.out.mono HB2.out.size)))).mono ?_
    rintro e w4 ⟨rfl, hb⟩
    have hbn := HBd.out.trans (hb.mono HBd.out.size)
    have qn := HSS.out w4 hbn
    have HB4 := hid hbn
    clear hb hbn
    refine hK.out _ _ qn (fun hHeld => ?_)
    clear hK K qn
    refine lastAny_ready (rs := [4, 8]) (by kernel_rfl) (by simp) ?_
    refine AllReadyL.cons (o := ⟨some 12, _, _, _, _, _⟩) rfl (fun K hK => ?_) (AllReadyL.cons (o := ⟨some 5, _, _, _, _, _⟩) rfl (fun K hK => ?_) AllReadyL.nil)
    ·(rw [if_pos (by kernel_rfl)])
     go_simp
     refine (HI.out w4 (spans_below HS.out (HB2.out.trans (HB4.out.mono HB2.out.size)))).mono ?_
     rintro e w5 ⟨rfl, hb⟩
     have hbn := HB4.out.trans (hb.mono HB4.out.size)
     have qn := HSS.out w5 hbn
     have HB5 := hid hbn
     clear hb hbn
     refine hK.out _ _ qn (fun hHeld => ?_)
     clear hK K qn
     refine tkL 5 ?_
     refine tkL 6 ?_
     refine tkL 7 ?_
     refine rdL 8 fun K hK => ?_
     go_simp
     have hbn : Below W2.heap.size W2 (w5.alloc (.cells #[.string ⟨#[]⟩, .int .i64 0] 43)) := HB5.out.alloc HB5.out.size _
     have qn := HSS.out _ hbn
     have x := Bx.new w5 43 (.string ⟨#[]⟩) (.int .i64 0)
     have HKW : Hid (W2.heap.size ≤ w5.heap.size) := hid (HB5.out.size)
     have HB6 := hid hbn
     have HX6 := hid x
     clear x hbn
     refine hK.out _ _ qn (fun hHeld => ?_)
     clear hK K qn
     have x5 := Bx.new w5 43 (.string (bs s.buf.1)) (.int .i64 (s.buf.2 : Int))
     have hb5 : Below W2.heap.size W2 (w5.alloc (.cells #[.string (bs s.buf.1), .int .i64 (s.buf.2 : Int)] 43)) := HB5.out.alloc HB5.out.size _
     have hkw := HKW.out
     have q5 := HSS.out _ hb5
     have y0 := HX6.out.c0
     have y1 := HX6.out.c1
     have z0 := HX6.out.f0
     have z1 := HX6.out.f1
     have HX5 := hid x5
     have HB5 := hid hb5
     clear x5 hb5
     refine rdL 9 fun K hK => ?_
     go_simp
     refine hK.out _ _ q5 (fun hHeld => ?_)
     clear hK K
     refine enL fun K hK => ?_
     go_simp
     refine hK.out _ _ ?_
     clear hK K
     go_wp2_with fail
     go_meet
     exact ⟨_, rfl, rfl, HB5.out, HX5.out, hkw⟩
    ·(rw [if_pos (by kernel_rfl)])
     go_simp
     have hbn : Below W2.heap.size W2 (w4.alloc (.cells #[.string ⟨#[]⟩, .int .i64 0] 43)) := HB4.out.alloc HB4.out.size _
     have qn := HSS.out _ hbn
     have x := Bx.new w4 43 (.string ⟨#[]⟩) (.int .i64 0)
     have HKW : Hid (W2.heap.size ≤ w4.heap.size) := hid (HB4.out.size)
     have HB5 := hid hbn
     have HX5 := hid x
     clear x hbn
     refine hK.out _ _ qn (fun hHeld => ?_)
     clear hK K qn
     refine rdL 4 fun K hK => ?_
     go_simp
     refine (HI.out (w4.alloc (.cells #[.string ⟨#[]⟩, .int .i64 0] 43)) (spans_below HS.out (HB2.out.trans (HB5.out.mono HB2.out.size)))).mono ?_
     rintro e w6 ⟨rfl, hb⟩
     have hbn := HB5.out.trans (hb.mono HB5.out.size)
     have qn := HSS.out w6 hbn
     have HB6 := hid hbn
     have HX6 := hid (HX5.out.below hb)
     clear hb hbn
     refine hK.out _ _ qn (fun hHeld => ?_)
     clear hK K qn
     refine tkL 5 ?_
     refine tkL 6 ?_
     refine tkL 7 ?_
     have x5 := (HX6.out.set0 (.string (bs s.buf.1))).set1 (.int .i64 (s.buf.2 : Int))
     have hb5 : Below W2.heap.size W2 ((w6.setCell ⟨w4.heap.size, 0, none⟩ (.string (bs s.buf.1))).setCell ⟨w4.heap.size, 1, none⟩ (.int .i64 (s.buf.2 : Int))) := (HB6.out.setCell (p := ⟨w4.heap.size, 0, none⟩) HKW.out _).setCell (p := ⟨w4.heap.size, 1, none⟩) HKW.out _
     have hkw := HKW.out
     have q5 := HSS.out _ hb5
     have y0 := HX6.out.c0
     have y1 := HX6.out.c1
     have z0 := HX6.out.f0
     have z1 := HX6.out.f1
     have HX5 := hid x5
     have HB5 := hid hb5
     clear x5 hb5
     refine rdL 9 fun K hK => ?_
     go_simp
     refine hK.out _ _ q5 (fun hHeld => ?_)
     clear hK K
     refine enL fun K hK => ?_
     go_simp
     refine hK.out _ _ ?_
     clear hK K
     go_wp2_with fail
     go_meet
     exact ⟨_, rfl, rfl, HB5.out, HX5.out, hkw⟩
   ·(rw [if_pos (by kernel_rfl)])
    go_simp
    have hbn : Below W2.heap.size W2 (W2.drew.alloc (.cells #[.string ⟨#[]⟩, .int .i64 0] 43)) := HBd.out.alloc HBd.out.size _
    have qn := HSS.out _ hbn
    have x := Bx.new W2.drew 43 (.string ⟨#[]⟩) (.int .i64 0)
    rw [show W2.drew.heap.size = W2.heap.size from rfl] at x
    have HKW : Hid (W2.heap.size ≤ W2.heap.size) := hid (Nat.le_refl _)
    have HB4 := hid hbn
    have HX4 := hid x
    clear x hbn
    refine hK.out _ _ qn (fun hHeld => ?_)
    clear hK K qn
    refine rdL 1 fun K hK => ?_
    go_simp
    refine (buf_callsL (W2.drew.alloc (.cells #[.string ⟨#[]⟩, .int .i64 0] 43)) O F b s (objLn.below H2.out HB4.out) (spans_below HS.out (HB2.out.trans (HB4.out.mono HB2.out.size)))).mono ?_
    rintro e w5 ⟨rfl, hb⟩
    have hbn := HB4.out.trans (hb.mono HB4.out.size)
    have qn := HSS.out w5 hbn
    have HB5 := hid hbn
    have HX5 := hid (HX4.out.below hb)
    clear hb hbn
    refine hK.out _ _ qn (fun hHeld => ?_)
    clear hK K qn
    refine rdL 4 fun K hK => ?_
    go_simp
    refine (HI.out w5 (spans_below HS.out (HB2.out.trans (HB5.out.mono HB2.out.size)))).mono ?_
    rintro e w6 ⟨rfl, hb⟩
    have hbn := HB5.out.trans (hb.mono HB5.out.size)
    have qn := HSS.out w6 hbn
    have HB6 := hid hbn
    have HX6 := hid (HX5.out.below hb)
    clear hb hbn
    refine hK.out _ _ qn (fun hHeld => ?_)
    clear hK K qn
    refine tkL 5 ?_
    refine tkL 6 ?_
    refine tkL 7 ?_
    have x5 := (HX6.out.set0 (.string (bs s.buf.1))).set1 (.int .i64 (s.buf.2 : Int))
    have hb5 : Below W2.heap.size W2 ((w6.setCell ⟨W2.heap.size, 0, none⟩ (.string (bs s.buf.1))).setCell ⟨W2.heap.size, 1, none⟩ (.int .i64 (s.buf.2 : Int))) := (HB6.out.setCell (p := ⟨W2.heap.size, 0, none⟩) HKW.out _).setCell (p := ⟨W2.heap.size, 1, none⟩) HKW.out _
    have hkw := HKW.out
    have q5 := HSS.out _ hb5
    have y0 := HX6.out.c0
    have y1 := HX6.out.c1
    have z0 := HX6.out.f0
    have z1 := HX6.out.f1
    have HX5 := hid x5
    have HB5 := hid hb5
    clear x5 hb5
    refine rdL 9 fun K hK => ?_
    go_simp
    refine hK.out _ _ q5 (fun hHeld => ?_)
    clear hK K
    refine enL fun K hK => ?_
    go_simp
    refine hK.out _ _ ?_
    clear hK K
    go_wp2_with fail
    go_meet
    exact ⟨_, rfl, rfl, HB5.out, HX5.out, hkw⟩
  case rest =>
   obtain ⟨K, rfl, rfl, hBc, hK, hKW⟩ := hcut
   have r0 := hK.c0
   have r1 := hK.c1
   have HBC := hid hBc
   clear HSS HI kc1 hK hBc
   have hf := fin3 H.out HB2.out (Nat.le_add_right _ 1) (by have := HN2.out; omega) HD2.out HBC.out (ToF.refl (objLn.below H2.out HBC.out))
   have HF := hid hf.2
   have hd9 := hf.1
   have q0 := hd9.c 0 rfl
   have q1 := hd9.c 1 rfl
   have q2 := hd9.c 2 rfl
   have p0 := hd9.free 0
   have p1 := hd9.free 1
   have p2 := hd9.free 2
   have HD9 := hid hd9
   clear hf hd9
   go_wp2_with fail
   refine bodyPost_ret (results_bx3 rfl _ _ (w.heap.size + 1) _ _ _ 60 rfl (three_box HD9.out _ _ _) Tryz.underlying60 (szD _)) rfl ?_
   exact ⟨rfl, HF.out _ _ _⟩
end
end
section
open Go Go.RowKit
open Go.Lib (hid)
def firL (l : List UInt8) : List UInt8 := (mS l).take (wrL (mS l) 0)
set_option maxHeartbeats 8000000 in
theorem swap_ez (l : List UInt8) (n : Int) (hl : l.length ≤ 137438953472) (w : World) (hsp : Spans w) (hend : mA l n = (mS l).length) (hz : swMid (mS l) (mA l n) = 0) :
  Calls Tryz.prog 109 #[.agg #[.string (bs l), .int .i64 n]] w fun e w' => e = .returned (.tuple #[.agg #[.string (bs (mS l)), .int .i64 (mA l n : Int)], .bool false]) ∧ Below w.heap.size w w' := by
 have HM := hid (fun W h => make_calls l n hl W h)
 have ha := mA_le l n
 have hms := mS_len l
 have hrt := make_rt l n
 have HP := hid (fun W h => prev_calls (mS l) (mA l n : Int) (by omega) W h)
 rw [hrt.make.1, hrt.make.2] at HP
 have hmd : swMid (mS l) (mA l n) = prvL (mS l) (mA l n) := if_pos hend
 rw [← hmd] at HP
 clear hrt
 generalize swMid (mS l) (mA l n) = d at *
 generalize mA l n = a at *
 generalize mS l = m at *
 have hszm := bs_size m
 have hde : ((a : Int) == (m.length : Int)) = true := by rw [beq_iff_eq]; omega
 have hdz : ((d : Int) == 0) = true := by rw [beq_iff_eq]; omega
 have k0 : Below w.heap.size w ((w.alloc (.cells #[.string (bs l), .int .i64 n] 43)).alloc (.cells #[.string ⟨#[]⟩, .int .i64 0] 43)) := ((Below.refl _ w).alloc (Nat.le_refl _) _).alloc (by simp) _
 have b0 := (Bx.new w 43 (.string (bs l)) (.int .i64 n)).alloc (.cells #[.string ⟨#[]⟩, .int .i64 0] 43)
 have r0 := Bx.new (w.alloc (.cells #[.string (bs l), .int .i64 n] 43)) 43 (.string ⟨#[]⟩) (.int .i64 0)
 rw [World.size_alloc] at r0
 have c00 := b0.c0
 have c01 := b0.c1
 have Hsp := hid hsp
 clear hsp
 clear hmd hend hz
 go_enter Tryz.func109, Tryz.ntmps109
 go_wp2_with fail
 refine (HM.out _ (spans_below Hsp.out k0)).mono ?_
 rintro e w1 ⟨rfl, hb1⟩
 have k1 := k0.trans (hb1.mono k0.size)
 have b1 := b0.below hb1
 have r1 := r0.below hb1
 clear hb1 c00 c01 b0 r0 k0
 have c10 := b1.c0
 have c11 := b1.c1
 have f10 := b1.f0
 have f11 := b1.f1
 have b3 := (b1.set0 (.string (bs m))).set1 (.int .i64 (a : Int))
 have r3 := (r1.other (i := 0) (Nat.succ_ne_self _) (.string (bs m))).other (i := 1) (Nat.succ_ne_self _) (.int .i64 (a : Int))
 have k3 := (k1.setCell (p := ⟨w.heap.size, 0, none⟩) (Nat.le_refl _) (.string (bs m))).setCell (p := ⟨w.heap.size, 1, none⟩) (Nat.le_refl _) (.int .i64 (a : Int))
 have B3 := hid b3
 have R3 := hid r3
 have K3 := hid k3
 clear b3 r3 k3 b1 r1 k1
 go_wp2_with fail
 refine (HP.out _ (spans_below Hsp.out K3.out)).mono ?_
 rintro e w5 ⟨rfl, hb5⟩
 have k5 := K3.out.trans (hb5.mono K3.out.size)
 have b5 := B3.out.below hb5
 have r5 := R3.out.below hb5
 clear hb5 c10 c11 f10 f11
 have c50 := b5.c0
 have c51 := b5.c1
 have R5 := hid r5
 have K5 := hid k5
 have B5 := hid b5
 have r50 := r5.c0
 have r51 := r5.c1
 have q50 := r5.f0
 have q51 := r5.f1
 have b50 := b5.c0
 have b51 := b5.c1
 clear r5 k5 b5
 go_wp2
 refine bodyPost_ret (results_bx2 rfl _ _ (w.heap.size + 1) (.string (bs m)) (.int .i64 (a : Int)) 43 rfl ((R5.out.set0 _).set1 _) Tryz.underlying43 (sizeBuf _)) rfl ?_
 exact ⟨rfl, (K5.out.setCell (p := ⟨w.heap.size + 1, 0, none⟩) (Nat.le_succ _) _).setCell (p := ⟨w.heap.size + 1, 1, none⟩) (Nat.le_succ _) _⟩
set_option maxHeartbeats 8000000 in
theorem swap_nz (l : List UInt8) (n : Int) (hl : l.length ≤ 137438953472) (w : World) (hsp : Spans w) (hend : ¬ mA l n = (mS l).length) (hz : swMid (mS l) (mA l n) = 0) :
  Calls Tryz.prog 109 #[.agg #[.string (bs l), .int .i64 n]] w fun e w' => e = .returned (.tuple #[.agg #[.string (bs (mS l)), .int .i64 (mA l n : Int)], .bool false]) ∧ Below w.heap.size w w' := by
 have HM := hid (fun W h => make_calls l n hl W h)
 have ha := mA_le l n
 have hms := mS_len l
 have hrt := make_rt l n
 have hmd : swMid (mS l) (mA l n) = mA l n := if_neg hend
 clear hrt
 generalize swMid (mS l) (mA l n) = d at *
 generalize mA l n = a at *
 generalize mS l = m at *
 have hszm := bs_size m
 have hde : ((a : Int) == (m.length : Int)) = false := beq_eq_false_iff_ne.2 (by omega)
 have hdz : ((d : Int) == 0) = true := by rw [beq_iff_eq]; omega
 have k0 : Below w.heap.size w ((w.alloc (.cells #[.string (bs l), .int .i64 n] 43)).alloc (.cells #[.string ⟨#[]⟩, .int .i64 0] 43)) := ((Below.refl _ w).alloc (Nat.le_refl _) _).alloc (by simp) _
 have b0 := (Bx.new w 43 (.string (bs l)) (.int .i64 n)).alloc (.cells #[.string ⟨#[]⟩, .int .i64 0] 43)
 have r0 := Bx.new (w.alloc (.cells #[.string (bs l), .int .i64 n] 43)) 43 (.string ⟨#[]⟩) (.int .i64 0)
 rw [World.size_alloc] at r0
 have c00 := b0.c0
 have c01 := b0.c1
 have Hsp := hid hsp
 clear hsp
 clear hend hz
 obtain rfl := hmd
 go_enter Tryz.func109, Tryz.ntmps109
 go_wp2_with fail
 refine (HM.out _ (spans_below Hsp.out k0)).mono ?_
 rintro e w1 ⟨rfl, hb1⟩
 have k1 := k0.trans (hb1.mono k0.size)
 have b1 := b0.below hb1
 have r1 := r0.below hb1
 clear hb1 c00 c01 b0 r0 k0
 have c10 := b1.c0
 have c11 := b1.c1
 have f10 := b1.f0
 have f11 := b1.f1
 have b3 := (b1.set0 (.string (bs m))).set1 (.int .i64 (d : Int))
 have r3 := (r1.other (i := 0) (Nat.succ_ne_self _) (.string (bs m))).other (i := 1) (Nat.succ_ne_self _) (.int .i64 (d : Int))
 have k3 := (k1.setCell (p := ⟨w.heap.size, 0, none⟩) (Nat.le_refl _) (.string (bs m))).setCell (p := ⟨w.heap.size, 1, none⟩) (Nat.le_refl _) (.int .i64 (d : Int))
 have b5 := b3
 have r5 := r3
 have k5 := k3
 clear b3 r3 k3 b1 r1 k1
 have R5 := hid r5
 have K5 := hid k5
 have B5 := hid b5
 have r50 := r5.c0
 have r51 := r5.c1
 have q50 := r5.f0
 have q51 := r5.f1
 have b50 := b5.c0
 have b51 := b5.c1
 clear r5 k5 b5
 go_wp2
 refine bodyPost_ret (results_bx2 rfl _ _ (w.heap.size + 1) (.string (bs m)) (.int .i64 (d : Int)) 43 rfl ((R5.out.set0 _).set1 _) Tryz.underlying43 (sizeBuf _)) rfl ?_
 exact ⟨rfl, (K5.out.setCell (p := ⟨w.heap.size + 1, 0, none⟩) (Nat.le_succ _) _).setCell (p := ⟨w.heap.size + 1, 1, none⟩) (Nat.le_succ _) _⟩
set_option maxHeartbeats 8000000 in
theorem swap_e (l : List UInt8) (n : Int) (hl : l.length ≤ 137438953472) (w : World) (hsp : Spans w) (hend : mA l n = (mS l).length) (hz : ¬ swMid (mS l) (mA l n) = 0) :
  Calls Tryz.prog 109 #[.agg #[.string (bs l), .int .i64 n]] w fun e w' => e = .returned (.tuple #[.agg #[.string (bs (swS (mS l) (prvL (mS l) (swMid (mS l) (mA l n))) (swMid (mS l) (mA l n)) (nxtL (mS l) (swMid (mS l) (mA l n))))), .int .i64 (onL (swS (mS l) (prvL (mS l) (swMid (mS l) (mA l n))) (swMid (mS l) (mA l n)) (nxtL (mS l) (swMid (mS l) (mA l n)))) (nxtL (mS l) (swMid (mS l) (mA l n)) : Int) : Int)], .bool true]) ∧ Below w.heap.size w w' := by
 have HM := hid (fun W h => make_calls l n hl W h)
 have ha := mA_le l n
 have hms := mS_len l
 have hrt := make_rt l n
 have HP := hid (fun W h => prev_calls (mS l) (mA l n : Int) (by omega) W h)
 rw [hrt.make.1, hrt.make.2] at HP
 have hmd : swMid (mS l) (mA l n) = prvL (mS l) (mA l n) := if_pos hend
 rw [← hmd] at HP
 have hbm := isB_mid hrt.2.2
 have hmr : Rt (mS l) (swMid (mS l) (mA l n)) := ⟨hrt.1, hrt.2.1, hbm⟩
 have hfl := prv_lt hbm
 have htg := nxt_ge hbm
 have htl : nxtL (mS l) (swMid (mS l) (mA l n)) ≤ (mS l).length := onL_le _ _
 have hml := hbm.le
 have HF := hid (fun W h => prev_calls (mS l) (swMid (mS l) (mA l n) : Int) (by omega) W h)
 rw [hmr.make.1, hmr.make.2] at HF
 have HT := hid (fun W h => next_callsT (mS l) (swMid (mS l) (mA l n) : Int) (by omega) W h)
 rw [hmr.make.1, hmr.make.2] at HT
 have hsl := swS_length (mS l) _ _ _ hfl htg htl
 have HO := hid (fun W h => on_calls (swS (mS l) (prvL (mS l) (swMid (mS l) (mA l n))) (swMid (mS l) (mA l n)) (nxtL (mS l) (swMid (mS l) (mA l n)))) (nxtL (mS l) (swMid (mS l) (mA l n)) : Int) (by omega) W h)
 have hx1 := bs_take (mS l) (prvL (mS l) (swMid (mS l) (mA l n)))
 have hx2 : (bs (mS l)).extract (swMid (mS l) (mA l n)) (nxtL (mS l) (swMid (mS l) (mA l n))) = bs (goneS (mS l) (swMid (mS l) (mA l n)) (nxtL (mS l) (swMid (mS l) (mA l n)))) := bs_mid _ _ _
 have hx3 : (bs (mS l)).extract (prvL (mS l) (swMid (mS l) (mA l n))) (swMid (mS l) (mA l n)) = bs (goneS (mS l) (prvL (mS l) (swMid (mS l) (mA l n))) (swMid (mS l) (mA l n))) := bs_mid _ _ _
 have hx4 := bs_drop (mS l) (nxtL (mS l) (swMid (mS l) (mA l n)))
 have hp3 : ∀ W : World, (Op.stringOp .add (bs ((mS l).take (prvL (mS l) (swMid (mS l) (mA l n))) ++ goneS (mS l) (swMid (mS l) (mA l n)) (nxtL (mS l) (swMid (mS l) (mA l n))) ++ goneS (mS l) (prvL (mS l) (swMid (mS l) (mA l n))) (swMid (mS l) (mA l n)))) (bs ((mS l).drop (nxtL (mS l) (swMid (mS l) (mA l n)))))).run Tryz.prog W = .ok (.string (bs (swS (mS l) (prvL (mS l) (swMid (mS l) (mA l n))) (swMid (mS l) (mA l n)) (nxtL (mS l) (swMid (mS l) (mA l n)))))) W :=
  add_bs Tryz.prog _ _ (by have e := hsl; unfold swS at e; rw [List.length_append] at e; omega)
 have hp2 := add_bs Tryz.prog ((mS l).take (prvL (mS l) (swMid (mS l) (mA l n))) ++ goneS (mS l) (swMid (mS l) (mA l n)) (nxtL (mS l) (swMid (mS l) (mA l n)))) (goneS (mS l) (prvL (mS l) (swMid (mS l) (mA l n))) (swMid (mS l) (mA l n))) (by have e := hsl; unfold swS at e; simp only [List.length_append] at e; rw [List.length_append]; omega)
 have hp1 := add_bs Tryz.prog ((mS l).take (prvL (mS l) (swMid (mS l) (mA l n)))) (goneS (mS l) (swMid (mS l) (mA l n)) (nxtL (mS l) (swMid (mS l) (mA l n)))) (by have e := hsl; unfold swS at e; simp only [List.length_append] at e; omega)
 clear hbm hmr
 generalize onL (swS (mS l) (prvL (mS l) (swMid (mS l) (mA l n))) (swMid (mS l) (mA l n)) (nxtL (mS l) (swMid (mS l) (mA l n)))) (nxtL (mS l) (swMid (mS l) (mA l n)) : Int) = x at *
 generalize swS (mS l) (prvL (mS l) (swMid (mS l) (mA l n))) (swMid (mS l) (mA l n)) (nxtL (mS l) (swMid (mS l) (mA l n))) = z at *
 generalize hA3 : (mS l).take (prvL (mS l) (swMid (mS l) (mA l n))) ++ goneS (mS l) (swMid (mS l) (mA l n)) (nxtL (mS l) (swMid (mS l) (mA l n))) ++ goneS (mS l) (prvL (mS l) (swMid (mS l) (mA l n))) (swMid (mS l) (mA l n)) = s3 at *
 generalize hA2 : (mS l).take (prvL (mS l) (swMid (mS l) (mA l n))) ++ goneS (mS l) (swMid (mS l) (mA l n)) (nxtL (mS l) (swMid (mS l) (mA l n))) = s2 at *
 clear hA3 hA2
 generalize (mS l).take (prvL (mS l) (swMid (mS l) (mA l n))) = t1 at *
 generalize goneS (mS l) (swMid (mS l) (mA l n)) (nxtL (mS l) (swMid (mS l) (mA l n))) = t2 at *
 generalize goneS (mS l) (prvL (mS l) (swMid (mS l) (mA l n))) (swMid (mS l) (mA l n)) = t3 at *
 generalize (mS l).drop (nxtL (mS l) (swMid (mS l) (mA l n))) = t4 at *
 generalize prvL (mS l) (swMid (mS l) (mA l n)) = f at *
 generalize nxtL (mS l) (swMid (mS l) (mA l n)) = t at *
 clear hrt
 generalize swMid (mS l) (mA l n) = d at *
 generalize mA l n = a at *
 generalize mS l = m at *
 have hszm := bs_size m
 have hszz := bs_size z
 have hi0 : (0 : Int) ≤ (f : Int) := by omega
 have hi1 : (f : Int) ≤ (d : Int) := by omega
 have hi2 : (0 : Int) ≤ (d : Int) := by omega
 have hi3 : (d : Int) ≤ (t : Int) := by omega
 have hi4 : (0 : Int) ≤ (t : Int) := by omega
 have hi5 : (t : Int) ≤ (m.length : Int) := by omega
 have hi6 : (d : Int) ≤ (m.length : Int) := by omega
 have hi7 : (f : Int) ≤ (m.length : Int) := by omega
 have hde : ((a : Int) == (m.length : Int)) = true := by rw [beq_iff_eq]; omega
 have hdz : ((d : Int) == 0) = false := beq_eq_false_iff_ne.2 (by omega)
 have k0 : Below w.heap.size w ((w.alloc (.cells #[.string (bs l), .int .i64 n] 43)).alloc (.cells #[.string ⟨#[]⟩, .int .i64 0] 43)) := ((Below.refl _ w).alloc (Nat.le_refl _) _).alloc (by simp) _
 have b0 := (Bx.new w 43 (.string (bs l)) (.int .i64 n)).alloc (.cells #[.string ⟨#[]⟩, .int .i64 0] 43)
 have r0 := Bx.new (w.alloc (.cells #[.string (bs l), .int .i64 n] 43)) 43 (.string ⟨#[]⟩) (.int .i64 0)
 rw [World.size_alloc] at r0
 have c00 := b0.c0
 have c01 := b0.c1
 have Hsp := hid hsp
 clear hsp
 clear hmd hend hz
 go_enter Tryz.func109, Tryz.ntmps109
 go_wp2_with fail
 refine (HM.out _ (spans_below Hsp.out k0)).mono ?_
 rintro e w1 ⟨rfl, hb1⟩
 have k1 := k0.trans (hb1.mono k0.size)
 have b1 := b0.below hb1
 have r1 := r0.below hb1
 clear hb1 c00 c01 b0 r0 k0
 have c10 := b1.c0
 have c11 := b1.c1
 have f10 := b1.f0
 have f11 := b1.f1
 have b3 := (b1.set0 (.string (bs m))).set1 (.int .i64 (a : Int))
 have r3 := (r1.other (i := 0) (Nat.succ_ne_self _) (.string (bs m))).other (i := 1) (Nat.succ_ne_self _) (.int .i64 (a : Int))
 have k3 := (k1.setCell (p := ⟨w.heap.size, 0, none⟩) (Nat.le_refl _) (.string (bs m))).setCell (p := ⟨w.heap.size, 1, none⟩) (Nat.le_refl _) (.int .i64 (a : Int))
 have B3 := hid b3
 have R3 := hid r3
 have K3 := hid k3
 clear b3 r3 k3 b1 r1 k1
 go_wp2_with fail
 refine (HP.out _ (spans_below Hsp.out K3.out)).mono ?_
 rintro e w5 ⟨rfl, hb5⟩
 have k5 := K3.out.trans (hb5.mono K3.out.size)
 have b5 := B3.out.below hb5
 have r5 := R3.out.below hb5
 clear hb5 c10 c11 f10 f11
 have c50 := b5.c0
 have c51 := b5.c1
 have b50 := b5.c0
 have b51 := b5.c1
 go_wp2_with fail
 have K6 := hid k5.drew
 have B6 := hid b5.drew
 have R6 := hid r5.drew
 clear k5 b5 r5 b50 b51
 refine wp_region_held_drew (S := (fun w' => w'.cell? ⟨w.heap.size, 0, none⟩ = some (.string (bs m)) ∧ w'.cell? ⟨w.heap.size, 1, none⟩ = some (.int .i64 (a : Int)))) (by kernel_rfl) ⟨B6.out.c0, B6.out.c1⟩ (fun hHeld => ?_)
 refine tkH 0 ?_
 refine tkH 1 ?_
 refine tkH 2 ?_
 refine tkH 4 ?_
 refine tkH 5 ?_
 refine tkH 6 ?_
 refine rdH 3 fun K hK => ?_
 go_simp
 (refine (HF.out _ (spans_below Hsp.out K6.out)).mono ?_; rintro e w7 ⟨rfl, hb7⟩; have k7 := K6.out.trans (hb7.mono K6.out.size); have b7 := B6.out.below hb7; have r7 := R6.out.below hb7)
 refine hK.out _ _ ⟨b7.c0, b7.c1⟩ (fun hHeld => ?_)
 clear hK K
 refine rdH 7 fun K hK => ?_
 go_simp
 (refine (HT.out _ (spans_below Hsp.out k7)).mono ?_; rintro e w8 ⟨rfl, hb8⟩; have k8 := k7.trans (hb8.mono k7.size); have b8 := b7.below hb8; have r8 := r7.below hb8)
 refine hK.out _ _ ⟨b8.c0, b8.c1⟩ (fun hHeld => ?_)
 clear hK K
 refine tkH 8 ?_
 refine tkH 9 ?_
 refine wpAnyH_done (by kernel_rfl) ?_ _
 have K8 := hid k8
 have R8 := hid r8
 have B8 := hid b8
 have b80 := b8.c0
 have b81 := b8.c1
 clear hHeld k7 b7 r7 hb7 hb8 k8 b8 r8
 go_wp2_with fail
 go_quiet (fail)
 go_wp2_with fail
 refine (HO.out _ (spans_below Hsp.out (bel_drewN K8.out _))).mono ?_
 rintro e w9 ⟨rfl, hb9⟩
 have k9 := (bel_drewN K8.out nq).trans (hb9.mono (bel_drewN K8.out nq).size)
 have r9 := (R8.out.drewN nq).below hb9
 have c90 := r9.c0
 have c91 := r9.c1
 have f90 := r9.f0
 have f91 := r9.f1
 have K9 := hid k9
 have R9 := hid r9
 clear hb9 r9 k9
 go_wp2
 refine bodyPost_ret (results_bx2 rfl _ _ (w.heap.size + 1) (.string (bs z)) (.int .i64 (x : Int)) 43 rfl ((R9.out.set0 _).set1 _) Tryz.underlying43 (sizeBuf _)) rfl ?_
 exact ⟨rfl, (K9.out.setCell (p := ⟨w.heap.size + 1, 0, none⟩) (Nat.le_succ _) _).setCell (p := ⟨w.heap.size + 1, 1, none⟩) (Nat.le_succ _) _⟩
set_option maxHeartbeats 8000000 in
theorem swap_n (l : List UInt8) (n : Int) (hl : l.length ≤ 137438953472) (w : World) (hsp : Spans w) (hend : ¬ mA l n = (mS l).length) (hz : ¬ swMid (mS l) (mA l n) = 0) :
  Calls Tryz.prog 109 #[.agg #[.string (bs l), .int .i64 n]] w fun e w' => e = .returned (.tuple #[.agg #[.string (bs (swS (mS l) (prvL (mS l) (swMid (mS l) (mA l n))) (swMid (mS l) (mA l n)) (nxtL (mS l) (swMid (mS l) (mA l n))))), .int .i64 (onL (swS (mS l) (prvL (mS l) (swMid (mS l) (mA l n))) (swMid (mS l) (mA l n)) (nxtL (mS l) (swMid (mS l) (mA l n)))) (nxtL (mS l) (swMid (mS l) (mA l n)) : Int) : Int)], .bool true]) ∧ Below w.heap.size w w' := by
 have HM := hid (fun W h => make_calls l n hl W h)
 have ha := mA_le l n
 have hms := mS_len l
 have hrt := make_rt l n
 have hmd : swMid (mS l) (mA l n) = mA l n := if_neg hend
 have hbm := isB_mid hrt.2.2
 have hmr : Rt (mS l) (swMid (mS l) (mA l n)) := ⟨hrt.1, hrt.2.1, hbm⟩
 have hfl := prv_lt hbm
 have htg := nxt_ge hbm
 have htl : nxtL (mS l) (swMid (mS l) (mA l n)) ≤ (mS l).length := onL_le _ _
 have hml := hbm.le
 have HF := hid (fun W h => prev_calls (mS l) (swMid (mS l) (mA l n) : Int) (by omega) W h)
 rw [hmr.make.1, hmr.make.2] at HF
 have HT := hid (fun W h => next_callsT (mS l) (swMid (mS l) (mA l n) : Int) (by omega) W h)
 rw [hmr.make.1, hmr.make.2] at HT
 have hsl := swS_length (mS l) _ _ _ hfl htg htl
 have HO := hid (fun W h => on_calls (swS (mS l) (prvL (mS l) (swMid (mS l) (mA l n))) (swMid (mS l) (mA l n)) (nxtL (mS l) (swMid (mS l) (mA l n)))) (nxtL (mS l) (swMid (mS l) (mA l n)) : Int) (by omega) W h)
 have hx1 := bs_take (mS l) (prvL (mS l) (swMid (mS l) (mA l n)))
 have hx2 : (bs (mS l)).extract (swMid (mS l) (mA l n)) (nxtL (mS l) (swMid (mS l) (mA l n))) = bs (goneS (mS l) (swMid (mS l) (mA l n)) (nxtL (mS l) (swMid (mS l) (mA l n)))) := bs_mid _ _ _
 have hx3 : (bs (mS l)).extract (prvL (mS l) (swMid (mS l) (mA l n))) (swMid (mS l) (mA l n)) = bs (goneS (mS l) (prvL (mS l) (swMid (mS l) (mA l n))) (swMid (mS l) (mA l n))) := bs_mid _ _ _
 have hx4 := bs_drop (mS l) (nxtL (mS l) (swMid (mS l) (mA l n)))
 have hp3 : ∀ W : World, (Op.stringOp .add (bs ((mS l).take (prvL (mS l) (swMid (mS l) (mA l n))) ++ goneS (mS l) (swMid (mS l) (mA l n)) (nxtL (mS l) (swMid (mS l) (mA l n))) ++ goneS (mS l) (prvL (mS l) (swMid (mS l) (mA l n))) (swMid (mS l) (mA l n)))) (bs ((mS l).drop (nxtL (mS l) (swMid (mS l) (mA l n)))))).run Tryz.prog W = .ok (.string (bs (swS (mS l) (prvL (mS l) (swMid (mS l) (mA l n))) (swMid (mS l) (mA l n)) (nxtL (mS l) (swMid (mS l) (mA l n)))))) W :=
  add_bs Tryz.prog _ _ (by have e := hsl; unfold swS at e; rw [List.length_append] at e; omega)
 have hp2 := add_bs Tryz.prog ((mS l).take (prvL (mS l) (swMid (mS l) (mA l n))) ++ goneS (mS l) (swMid (mS l) (mA l n)) (nxtL (mS l) (swMid (mS l) (mA l n)))) (goneS (mS l) (prvL (mS l) (swMid (mS l) (mA l n))) (swMid (mS l) (mA l n))) (by have e := hsl; unfold swS at e; simp only [List.length_append] at e; rw [List.length_append]; omega)
 have hp1 := add_bs Tryz.prog ((mS l).take (prvL (mS l) (swMid (mS l) (mA l n)))) (goneS (mS l) (swMid (mS l) (mA l n)) (nxtL (mS l) (swMid (mS l) (mA l n)))) (by have e := hsl; unfold swS at e; simp only [List.length_append] at e; omega)
 clear hbm hmr
 generalize onL (swS (mS l) (prvL (mS l) (swMid (mS l) (mA l n))) (swMid (mS l) (mA l n)) (nxtL (mS l) (swMid (mS l) (mA l n)))) (nxtL (mS l) (swMid (mS l) (mA l n)) : Int) = x at *
 generalize swS (mS l) (prvL (mS l) (swMid (mS l) (mA l n))) (swMid (mS l) (mA l n)) (nxtL (mS l) (swMid (mS l) (mA l n))) = z at *
 generalize hA3 : (mS l).take (prvL (mS l) (swMid (mS l) (mA l n))) ++ goneS (mS l) (swMid (mS l) (mA l n)) (nxtL (mS l) (swMid (mS l) (mA l n))) ++ goneS (mS l) (prvL (mS l) (swMid (mS l) (mA l n))) (swMid (mS l) (mA l n)) = s3 at *
 generalize hA2 : (mS l).take (prvL (mS l) (swMid (mS l) (mA l n))) ++ goneS (mS l) (swMid (mS l) (mA l n)) (nxtL (mS l) (swMid (mS l) (mA l n))) = s2 at *
 clear hA3 hA2
 generalize (mS l).take (prvL (mS l) (swMid (mS l) (mA l n))) = t1 at *
 generalize goneS (mS l) (swMid (mS l) (mA l n)) (nxtL (mS l) (swMid (mS l) (mA l n))) = t2 at *
 generalize goneS (mS l) (prvL (mS l) (swMid (mS l) (mA l n))) (swMid (mS l) (mA l n)) = t3 at *
 generalize (mS l).drop (nxtL (mS l) (swMid (mS l) (mA l n))) = t4 at *
 generalize prvL (mS l) (swMid (mS l) (mA l n)) = f at *
 generalize nxtL (mS l) (swMid (mS l) (mA l n)) = t at *
 clear hrt
 generalize swMid (mS l) (mA l n) = d at *
 generalize mA l n = a at *
 generalize mS l = m at *
 have hszm := bs_size m
 have hszz := bs_size z
 have hi0 : (0 : Int) ≤ (f : Int) := by omega
 have hi1 : (f : Int) ≤ (d : Int) := by omega
 have hi2 : (0 : Int) ≤ (d : Int) := by omega
 have hi3 : (d : Int) ≤ (t : Int) := by omega
 have hi4 : (0 : Int) ≤ (t : Int) := by omega
 have hi5 : (t : Int) ≤ (m.length : Int) := by omega
 have hi6 : (d : Int) ≤ (m.length : Int) := by omega
 have hi7 : (f : Int) ≤ (m.length : Int) := by omega
 have hde : ((a : Int) == (m.length : Int)) = false := beq_eq_false_iff_ne.2 (by omega)
 have hdz : ((d : Int) == 0) = false := beq_eq_false_iff_ne.2 (by omega)
 have k0 : Below w.heap.size w ((w.alloc (.cells #[.string (bs l), .int .i64 n] 43)).alloc (.cells #[.string ⟨#[]⟩, .int .i64 0] 43)) := ((Below.refl _ w).alloc (Nat.le_refl _) _).alloc (by simp) _
 have b0 := (Bx.new w 43 (.string (bs l)) (.int .i64 n)).alloc (.cells #[.string ⟨#[]⟩, .int .i64 0] 43)
 have r0 := Bx.new (w.alloc (.cells #[.string (bs l), .int .i64 n] 43)) 43 (.string ⟨#[]⟩) (.int .i64 0)
 rw [World.size_alloc] at r0
 have c00 := b0.c0
 have c01 := b0.c1
 have Hsp := hid hsp
 clear hsp
 clear hend hz
 obtain rfl := hmd
 go_enter Tryz.func109, Tryz.ntmps109
 go_wp2_with fail
 refine (HM.out _ (spans_below Hsp.out k0)).mono ?_
 rintro e w1 ⟨rfl, hb1⟩
 have k1 := k0.trans (hb1.mono k0.size)
 have b1 := b0.below hb1
 have r1 := r0.below hb1
 clear hb1 c00 c01 b0 r0 k0
 have c10 := b1.c0
 have c11 := b1.c1
 have f10 := b1.f0
 have f11 := b1.f1
 have b3 := (b1.set0 (.string (bs m))).set1 (.int .i64 (d : Int))
 have r3 := (r1.other (i := 0) (Nat.succ_ne_self _) (.string (bs m))).other (i := 1) (Nat.succ_ne_self _) (.int .i64 (d : Int))
 have k3 := (k1.setCell (p := ⟨w.heap.size, 0, none⟩) (Nat.le_refl _) (.string (bs m))).setCell (p := ⟨w.heap.size, 1, none⟩) (Nat.le_refl _) (.int .i64 (d : Int))
 have b5 := b3
 have r5 := r3
 have k5 := k3
 clear b3 r3 k3 b1 r1 k1
 have b50 := b5.c0
 have b51 := b5.c1
 go_wp2_with fail
 have K6 := hid k5.drew
 have B6 := hid b5.drew
 have R6 := hid r5.drew
 clear k5 b5 r5 b50 b51
 refine wp_region_held_drew (S := (fun w' => w'.cell? ⟨w.heap.size, 0, none⟩ = some (.string (bs m)) ∧ w'.cell? ⟨w.heap.size, 1, none⟩ = some (.int .i64 (d : Int)))) (by kernel_rfl) ⟨B6.out.c0, B6.out.c1⟩ (fun hHeld => ?_)
 refine tkH 0 ?_
 refine tkH 1 ?_
 refine tkH 2 ?_
 refine tkH 4 ?_
 refine tkH 5 ?_
 refine tkH 6 ?_
 refine rdH 3 fun K hK => ?_
 go_simp
 (refine (HF.out _ (spans_below Hsp.out K6.out)).mono ?_; rintro e w7 ⟨rfl, hb7⟩; have k7 := K6.out.trans (hb7.mono K6.out.size); have b7 := B6.out.below hb7; have r7 := R6.out.below hb7)
 refine hK.out _ _ ⟨b7.c0, b7.c1⟩ (fun hHeld => ?_)
 clear hK K
 refine rdH 7 fun K hK => ?_
 go_simp
 (refine (HT.out _ (spans_below Hsp.out k7)).mono ?_; rintro e w8 ⟨rfl, hb8⟩; have k8 := k7.trans (hb8.mono k7.size); have b8 := b7.below hb8; have r8 := r7.below hb8)
 refine hK.out _ _ ⟨b8.c0, b8.c1⟩ (fun hHeld => ?_)
 clear hK K
 refine tkH 8 ?_
 refine tkH 9 ?_
 refine wpAnyH_done (by kernel_rfl) ?_ _
 have K8 := hid k8
 have R8 := hid r8
 have B8 := hid b8
 have b80 := b8.c0
 have b81 := b8.c1
 clear hHeld k7 b7 r7 hb7 hb8 k8 b8 r8
 go_wp2_with fail
 go_quiet (fail)
 go_wp2_with fail
 refine (HO.out _ (spans_below Hsp.out (bel_drewN K8.out _))).mono ?_
 rintro e w9 ⟨rfl, hb9⟩
 have k9 := (bel_drewN K8.out nq).trans (hb9.mono (bel_drewN K8.out nq).size)
 have r9 := (R8.out.drewN nq).below hb9
 have c90 := r9.c0
 have c91 := r9.c1
 have f90 := r9.f0
 have f91 := r9.f1
 have K9 := hid k9
 have R9 := hid r9
 clear hb9 r9 k9
 go_wp2
 refine bodyPost_ret (results_bx2 rfl _ _ (w.heap.size + 1) (.string (bs z)) (.int .i64 (x : Int)) 43 rfl ((R9.out.set0 _).set1 _) Tryz.underlying43 (sizeBuf _)) rfl ?_
 exact ⟨rfl, (K9.out.setCell (p := ⟨w.heap.size + 1, 0, none⟩) (Nat.le_succ _) _).setCell (p := ⟨w.heap.size + 1, 1, none⟩) (Nat.le_succ _) _⟩
theorem swap_calls (l : List UInt8) (n : Int) (hl : l.length ≤ 137438953472) (w : World) (hsp : Spans w) :
  Calls Tryz.prog 109 #[.agg #[.string (bs l), .int .i64 n]] w fun e w' => e = .returned (.tuple #[.agg #[.string (bs (swapR (mS l) (mA l n)).1), .int .i64 ((swapR (mS l) (mA l n)).2.1 : Int)], .bool (swapR (mS l) (mA l n)).2.2]) ∧ Below w.heap.size w w' := by
 unfold swapR
 by_cases hz : swMid (mS l) (mA l n) = 0
 ·rw [if_pos hz]
  dsimp only
  by_cases hend : mA l n = (mS l).length
  ·exact swap_ez l n hl w hsp hend hz
  ·exact swap_nz l n hl w hsp hend hz
 ·rw [if_neg hz]
  dsimp only
  by_cases hend : mA l n = (mS l).length
  ·exact swap_e l n hl w hsp hend hz
  ·exact swap_n l n hl w hsp hend hz
end
section
open Go Go.RowKit
open Go.Lib (hid)
set_option maxRecDepth 100000
section
variable (w : World) (O F : Nat → Prop) (b : Nat) (s : LN)
set_option maxHeartbeats 2000000 in
theorem act_swap (k0 : Int) (t : ByteArray) (h : LineL w O F b s) (hsp : Spans w) :
  Calls Tryz.prog 74 #[.pointer (some ⟨b, 0, none⟩), .agg #[.int .i64 k0, .string t]] w fun e w' => e = .returned (dV .none) ∧ ToLn w O F w' b ⟨if (swapR s.buf.1 s.buf.2).2.2 = true then wrG s.log ((swapR s.buf.1 s.buf.2).1, (swapR s.buf.1 s.buf.2).2.1) 0 else s.log, s.ring, s.last⟩ := by
 obtain ⟨W2, hW2, hB2, hs2, hk2, hd2⟩ := boxesA w k0 t
 have HB2 := hid hB2
 have HN2 := hid hs2
 have HD2 := hid hd2
 have H := hid h
 have H2 := hid (objLn.below h hB2)
 have HS := hid hsp
 have hrt := (line_ok h).rt.1
 have hl6 : s.buf.1.length ≤ 137438953472 := Nat.le_trans hrt.2.1 (by decide)
 have e1 : mS s.buf.1 = s.buf.1 := hrt.make.1
 have e2 : mA s.buf.1 s.buf.2 = s.buf.2 := hrt.make.2
 have HQ := hid (fun W hS => swap_calls s.buf.1 s.buf.2 hl6 W hS)
 rw [e1, e2] at HQ
 have HR : Hid (Rt (swapR s.buf.1 s.buf.2).1 (swapR s.buf.1 s.buf.2).2.1) := hid (swap_rt (line_ok h).rt.1).1
 generalize swapR s.buf.1 s.buf.2 = c at *
 obtain ⟨cs, ca, is_⟩ := c
 dsimp only at HQ HR ⊢
 clear h hsp hB2 hs2 hk2 hd2 hrt hl6 e1 e2
 go_enter Tryz.func74, Tryz.ntmps74
 go_wp2_with fail
 refine (buf_callsL W2 O F b s H2.out (spans_below HS.out HB2.out)).mono ?_
 rintro e w3 ⟨rfl, hb3⟩
 have HB3 := hid hb3
 clear hb3
 go_wp2_with fail
 refine (HQ.out w3 (spans_below HS.out (HB2.out.trans (HB3.out.mono HB2.out.size)))).mono ?_
 rintro e w4 ⟨rfl, hb4⟩
 have hb4' := HB3.out.trans (hb4.mono HB3.out.size)
 have x3 := Bx.new w4 43 (.string ⟨#[]⟩) (.int .i64 0)
 have f0 := x3.f0
 have f1 := x3.f1
 have g0 := x3.c0
 have g1 := x3.c1
 have x4 := Bx.new w4 43 (.string (bs cs)) (.int .i64 (ca : Int))
 have hb5 := hb4'.alloc hb4'.size (.cells #[.string (bs cs), .int .i64 (ca : Int)] 43)
 obtain ⟨W4, hW4⟩ : ∃ W4, w4.alloc (.cells #[.string (bs cs), .int .i64 (ca : Int)] 43) = W4 := ⟨_, rfl⟩
 rw [hW4] at x4 hb5
 have y0 := x4.c0
 have y1 := x4.c1
 have HB5 := hid hb5
 clear x3 x4 hb5 hb4 hb4' HQ
 cases is_ with
 | true =>
  go_wp2_with fail
  refine (write_callsL W4 O F b s (objLn.below H2.out HB5.out) (cs, ca) HR.out).mono ?_
  rintro e w8 ⟨rfl, ht⟩
  have hf := fin3 H.out HB2.out (Nat.le_add_right _ 1) (by have := HN2.out; omega) HD2.out HB5.out ht
  have HF := hid hf.2
  have hd9 := hf.1
  have q0 := hd9.c 0 rfl
  have q1 := hd9.c 1 rfl
  have q2 := hd9.c 2 rfl
  have p0 := hd9.free 0
  have p1 := hd9.free 1
  have p2 := hd9.free 2
  have HD9 := hid hd9
  clear hf hd9
  go_wp2_with fail
  refine bodyPost_ret (results_bx3 rfl _ _ (w.heap.size + 1) _ _ _ 60 rfl (three_box HD9.out _ _ _) Tryz.underlying60 (szD _)) rfl ?_
  exact ⟨rfl, HF.out _ _ _⟩
 | false =>
  have hf := fin3 H.out HB2.out (Nat.le_add_right _ 1) (by have := HN2.out; omega) HD2.out HB5.out (ToF.refl (objLn.below H2.out HB5.out))
  have HF := hid hf.2
  have hd9 := hf.1
  have q0 := hd9.c 0 rfl
  have q1 := hd9.c 1 rfl
  have q2 := hd9.c 2 rfl
  have p0 := hd9.free 0
  have p1 := hd9.free 1
  have p2 := hd9.free 2
  have HD9 := hid hd9
  clear hf hd9
  go_wp2_with fail
  refine bodyPost_ret (results_bx3 rfl _ _ (w.heap.size + 1) _ _ _ 60 rfl (three_box HD9.out _ _ _) Tryz.underlying60 (szD _)) rfl ?_
  exact ⟨rfl, HF.out _ _ _⟩
set_option maxHeartbeats 2000000 in
theorem act_undo (k0 : Int) (t : ByteArray) (h : LineL w O F b s) (hsp : Spans w) :
  Calls Tryz.prog 87 #[.pointer (some ⟨b, 0, none⟩), .agg #[.int .i64 k0, .string t]] w fun e w' => e = .returned (dV .none) ∧ ToLn w O F w' b ⟨s.log.undo, s.ring, s.last⟩ := by
 obtain ⟨W2, hW2, hB2, hs2, hk2, hd2⟩ := boxesA w k0 t
 have HB2 := hid hB2
 have HN2 := hid hs2
 have HD2 := hid hd2
 have H := hid h
 have H2 := hid (objLn.below h hB2)
 have HS := hid hsp
 have hrt := (line_ok h).rt.1
 have hl6 : s.buf.1.length ≤ 137438953472 := Nat.le_trans hrt.2.1 (by decide)
 have e1 : mS s.buf.1 = s.buf.1 := hrt.make.1
 have e2 : mA s.buf.1 s.buf.2 = s.buf.2 := hrt.make.2
 clear h hsp hB2 hs2 hk2 hd2 hrt hl6 e1 e2
 obtain ⟨g, r, Rl, Rr, hA⟩ := H2.out
 have c0 := hA.box.c 0 rfl
 have HA := hid hA
 have HU := hid (undo_callsB W2 Rl g s.log hA.log)
 clear hA
 go_enter Tryz.func87, Tryz.ntmps87
 go_wp2_with fail
 refine HU.out.mono ?_
 rintro e w3 ⟨rfl, htb⟩
 have ht : ToLn W2 O F w3 b ⟨s.log.undo, s.ring, s.last⟩ := HA.out.log_to htb ⟨HA.out.ok.log.undo, (LN.undo_lim _).trans HA.out.ok.lim, HA.out.ok.rt.undo, HA.out.ok.ring, HA.out.ok.rlim⟩
 clear htb HU
 have hf := fin3 H.out HB2.out (Nat.le_add_right _ 1) (by have := HN2.out; omega) HD2.out (Below.refl _ W2) ht
 have HF := hid hf.2
 have hd9 := hf.1
 have q0 := hd9.c 0 rfl
 have q1 := hd9.c 1 rfl
 have q2 := hd9.c 2 rfl
 have p0 := hd9.free 0
 have p1 := hd9.free 1
 have p2 := hd9.free 2
 have HD9 := hid hd9
 clear hf hd9
 go_wp2_with fail
 refine bodyPost_ret (results_bx3 rfl _ _ (w.heap.size + 1) _ _ _ 60 rfl (three_box HD9.out _ _ _) Tryz.underlying60 (szD _)) rfl ?_
 exact ⟨rfl, HF.out _ _ _⟩
set_option maxHeartbeats 2000000 in
theorem act_redo (k0 : Int) (t : ByteArray) (h : LineL w O F b s) (hsp : Spans w) :
  Calls Tryz.prog 88 #[.pointer (some ⟨b, 0, none⟩), .agg #[.int .i64 k0, .string t]] w fun e w' => e = .returned (dV .none) ∧ ToLn w O F w' b ⟨s.log.redo, s.ring, s.last⟩ := by
 obtain ⟨W2, hW2, hB2, hs2, hk2, hd2⟩ := boxesA w k0 t
 have HB2 := hid hB2
 have HN2 := hid hs2
 have HD2 := hid hd2
 have H := hid h
 have H2 := hid (objLn.below h hB2)
 have HS := hid hsp
 have hrt := (line_ok h).rt.1
 have hl6 : s.buf.1.length ≤ 137438953472 := Nat.le_trans hrt.2.1 (by decide)
 have e1 : mS s.buf.1 = s.buf.1 := hrt.make.1
 have e2 : mA s.buf.1 s.buf.2 = s.buf.2 := hrt.make.2
 clear h hsp hB2 hs2 hk2 hd2 hrt hl6 e1 e2
 obtain ⟨g, r, Rl, Rr, hA⟩ := H2.out
 have c0 := hA.box.c 0 rfl
 have HA := hid hA
 have HU := hid (redo_callsB W2 Rl g s.log hA.log)
 clear hA
 go_enter Tryz.func88, Tryz.ntmps88
 go_wp2_with fail
 refine HU.out.mono ?_
 rintro e w3 ⟨rfl, htb⟩
 have ht : ToLn W2 O F w3 b ⟨s.log.redo, s.ring, s.last⟩ := HA.out.log_to htb ⟨HA.out.ok.log.redo, (LN.redo_lim _).trans HA.out.ok.lim, HA.out.ok.rt.redo, HA.out.ok.ring, HA.out.ok.rlim⟩
 clear htb HU
 have hf := fin3 H.out HB2.out (Nat.le_add_right _ 1) (by have := HN2.out; omega) HD2.out (Below.refl _ W2) ht
 have HF := hid hf.2
 have hd9 := hf.1
 have q0 := hd9.c 0 rfl
 have q1 := hd9.c 1 rfl
 have q2 := hd9.c 2 rfl
 have p0 := hd9.free 0
 have p1 := hd9.free 1
 have p2 := hd9.free 2
 have HD9 := hid hd9
 clear hf hd9
 go_wp2_with fail
 refine bodyPost_ret (results_bx3 rfl _ _ (w.heap.size + 1) _ _ _ 60 rfl (three_box HD9.out _ _ _) Tryz.underlying60 (szD _)) rfl ?_
 exact ⟨rfl, HF.out _ _ _⟩
end
end
section
open Go Go.RowKit
open Go.Lib (hid)
set_option maxRecDepth 100000
def joinF (ahead : Bool) : Nat := if ahead then 130 else 129
theorem add_arr (x g : ByteArray) (h : x.size + g.size ≤ 2000000) (W : World) : (Op.stringOp .add x g).run Tryz.prog W = .ok (.string (x ++ g)) W := run_string_add_sum (P := Tryz.prog) (w := W) x g (by omega)
theorem join_to (x g : ByteArray) (h : x.size + g.size ≤ 2000000) (w : World) : Calls Tryz.prog 129 #[.string x, .string g] w fun e w' => e = .returned (.string (x ++ g)) ∧ Below w.heap.size w w' := by
 have ha := add_arr x g h
 go_enter Tryz.func129, Tryz.ntmps129
 go_wp2_with fail
 go_ret
 exact ⟨rfl, Below.refl _ _⟩
theorem join_from (x g : ByteArray) (h : x.size + g.size ≤ 2000000) (w : World) : Calls Tryz.prog 130 #[.string x, .string g] w fun e w' => e = .returned (.string (g ++ x)) ∧ Below w.heap.size w w' := by
 have ha := add_arr g x (by omega)
 go_enter Tryz.func130, Tryz.ntmps130
 go_wp2_with fail
 go_ret
 exact ⟨rfl, Below.refl _ _⟩
theorem keep1_calls (ahead : Bool) (x g : ByteArray) (h : x.size + g.size ≤ 2000000) (w : World) (kg kf : Nat) (hg : Boxed w kg 9 (.string g)) (hf : Boxed w kf 149 (.func (.func (joinF ahead)) #[] #[])) :
  Calls Tryz.prog 138 #[.string x, .pointer (some ⟨kf, 0, none⟩), .pointer (some ⟨kg, 0, none⟩)] w fun e w' => e = .returned (.string (LN.onto ahead g x)) ∧ Below w.heap.size w w' := by
 have c0 := hg.cell
 have c1 := hf.cell
 unfold joinF at c1
 unfold LN.onto
 cases ahead with
 | true =>
  rw [if_pos rfl] at c1 ⊢
  go_enter Tryz.func138, Tryz.ntmps138
  go_wp2_with fail
  refine (join_from x g h w).mono ?_
  rintro e w2 ⟨rfl, hb⟩
  go_wp2_with fail
  go_ret
  exact ⟨rfl, hb⟩
 | false =>
  rw [if_neg Bool.false_ne_true] at c1 ⊢
  go_enter Tryz.func138, Tryz.ntmps138
  go_wp2_with fail
  refine (join_to x g h w).mono ?_
  rintro e w2 ⟨rfl, hb⟩
  go_wp2_with fail
  go_ret
  exact ⟨rfl, hb⟩
theorem Below.drewR {w : World} : Below w.heap.size w w.drew := (Below.refl _ w).drew
section
variable (w : World) (O F : Nat → Prop) (b : Nat) (s : LN)
theorem boxed_bel {w w' : World} {g : Nat} {t : TypeId} {v : Value} (h : Boxed w g t v) (hb : Below w.heap.size w w') : Boxed w' g t v := (hb.block g h.lt).trans h
theorem boxesK (w : World) (g f : Value) : ∃ W2, (w.alloc (.cells #[g] 9)).alloc (.cells #[f] 149) = W2 ∧ Below w.heap.size w W2 ∧ W2.heap.size = w.heap.size + 2 ∧ Boxed W2 w.heap.size 9 g ∧ Boxed W2 (w.heap.size + 1) 149 f := by
 refine ⟨_, rfl, ((Below.refl _ w).alloc (Nat.le_refl _) _).alloc (by rw [World.size_alloc]; omega) _, by rw [World.size_alloc, World.size_alloc], boxed_bel (Boxed.new w _ _) ((Below.refl _ _).alloc (Nat.le_refl _) _), ?_⟩
 have := Boxed.new (w.alloc (.cells #[g] 9)) 149 f
 rwa [World.size_alloc] at this
set_option maxHeartbeats 2000000 in
theorem keep_callsL (h : LineL w O F b s) (g : List UInt8) (hg : g ≠ []) (hg6 : g.length ≤ 600) (hB : SmR s.ring 1000000) (ahead : Bool) :
  Calls Tryz.prog 136 #[.pointer (some ⟨b, 0, none⟩), .string (bs g), .func (.func (joinF ahead)) #[] #[]] w fun e w' => e = .returned (.tuple #[]) ∧ ToLn w O F w' b ⟨s.log, LN.killed s.ring s.last ahead g, s.last⟩ := by
 obtain ⟨W2, hW2, hB2, hs2, hk2, hd2⟩ := boxesK w (.string (bs g)) (.func (.func (joinF ahead)) #[] #[])
 have HS2 : Hid (StepF w O F W2 O F) := hid (StepF.below O F hB2)
 obtain ⟨n, r, Rl, Rr, hA⟩ := objLn.below h hB2
 have hrl := hA.ring.lt r hA.ring.ins
 have hO := (hA.hO r).2 (.inr (.inr hA.ring.ins))
 have c1 := hA.box.c 1 rfl
 have c2 := hA.box.c 2 rfl
 have HA := hid hA
 have hgs := bs_size g
 have HC := hid (change_callsS W2 Rr r s.ring hA.ring 138 #[.pointer (some ⟨w.heap.size + 1, 0, none⟩), .pointer (some ⟨w.heap.size, 0, none⟩)] (enters_of Tryz.func138 (by kernel_rfl) rfl) (LN.onto ahead (bs g)) (fun W x hW hx => keep1_calls ahead x (bs g) (by have := hB x (List.mem_of_getElem? hx); omega) W w.heap.size (w.heap.size + 1) (boxed_bel hk2 hW) (boxed_bel hd2 hW)))
 have hdd : decide (0 < s.ring.l.length) = decide (s.ring.l ≠ []) := by
  cases s.ring.l with
  | nil => rfl
  | cons x t => rfl
 have HX : Hid (b < w.heap.size ∧ n < w.heap.size) := hid ⟨objLn.lt h b (.inl ((hA.hO b).2 (.inl rfl))), objLn.lt h n (.inl ((hA.hO n).2 (.inr (.inl rfl))))⟩
 by_cases hl : s.last = .kill
 ·rw [hl, show kdL .kill = 1 from rfl] at c2
  by_cases hr : s.ring.l = []
  ·have hkl : LN.killed s.ring s.last ahead g = (s.ring.change (LN.onto ahead (bs g))).push (bs g) := by
    unfold LN.killed
    rw [if_neg hg, if_neg (fun e => e.2 hr)]
    show (⟨s.ring.lim, bs g :: s.ring.l.take (s.ring.lim - 1), 0⟩ : RS ByteArray) = ⟨s.ring.lim, bs g :: (chL _ s.ring.l).take (s.ring.lim - 1), 0⟩
    rw [hr]; rfl
   rw [hdd, hr, show decide (([] : List ByteArray) ≠ []) = false from rfl] at HC
   rw [hkl]
   have hno : ¬ Rr w.heap.size := fun hk => by have := objLn.lt h _ (.inl ((hA.hO _).2 (.inr (.inr hk)))); omega
   have hn2 := hs2
   clear hA h hd2 hdd hl hr hkl
   go_enter Tryz.func136, Tryz.ntmps136
   go_wp2_with fail
   refine HC.out.mono ?_
   rintro e w3 ⟨rfl, ht⟩
   obtain ⟨Rn, hRn⟩ := id ht
   have hG : Boxed w3 w.heap.size 9 (.string (bs g)) := (hRn.2.1.block _ (by omega) hno).trans hk2
   have HG := hid hG
   obtain ⟨Rr1, O1, hA1, hst⟩ := HA.out.ring_at ht ⟨HA.out.ok.log, HA.out.ok.lim, HA.out.ok.rt, HA.out.ok.ring.change _, HA.out.ok.rlim⟩
   have HNR : Hid (¬ Rr1 w.heap.size) := hid (fun hk => by
    rcases hst.2.1 _ ((hA1.hO _).2 (.inr (.inr hk))) with h1 | h1
    ·rcases (HA.out.hO _).1 h1 with e | e | e
     ·have := HX.out.1; omega
     ·have := HX.out.2; omega
     ·exact hno e
    ·omega)
   have HA1 := hid hA1
   have HST := hid (HS2.out.trans hst)
   clear hA1 hst hG hRn ht hk2 hn2 hno
   have HP := hid (push_callsS w3.drew Rr1 r (s.ring.change (LN.onto ahead (bs g))) (HA1.out.ring.below Below.drewR) (bs g))
   have HSS : Hid (∀ w' : World, Only Rr1 w3.drew w' → w'.cell? ⟨b, 1, none⟩ = some (.pointer (some ⟨r, 0, none⟩)) ∧ w'.cell? ⟨w.heap.size, 0, none⟩ = some (.string (bs g))) := hid (fun w' ho => ⟨((HA1.out.box.below Below.drewR).keep ho HA1.out.nr).c 1 rfl, ho.cell (boxed_bel HG.out Below.drewR).cell HNR.out⟩)
   have s0 := HA1.out.box.c 1 rfl
   have s1 := HG.out.cell
   go_upto_region 3 with fail
   refine wp_region_held_drew (S := (fun w' => w'.cell? ⟨b, 1, none⟩ = some (.pointer (some ⟨r, 0, none⟩)) ∧ w'.cell? ⟨w.heap.size, 0, none⟩ = some (.string (bs g)))) (by kernel_rfl) ⟨s0, s1⟩ (fun hHeld => ?_)
   refine tkH 0 ?_
   refine tkH 1 ?_
   refine tkH 2 ?_
   refine tkH 3 ?_
   refine tkH 4 ?_
   refine rdH 5 fun K hK => ?_
   go_simp
   refine HP.out.mono ?_
   rintro e w8 ⟨rfl, ht⟩
   have hS := HSS.out w8 (by obtain ⟨_, _, ho, _⟩ := ht; exact ho)
   have hto := (HA1.out.below Below.drewR).ring_to ht ⟨HA1.out.ok.log, HA1.out.ok.lim, HA1.out.ok.rt, HA1.out.ok.ring.push _, HA1.out.ok.rlim⟩
   have HT := hid (((HST.out.trans (StepF.below _ _ Below.drewR))).tom hto)
   clear ht hto HP HSS
   refine hK.out _ _ hS (fun hHeld => ?_)
   clear hK K
   refine wpAnyH_done (by kernel_rfl) ?_ _
   go_wp2_with fail
   go_end0
   exact ⟨rfl, HT.out⟩
  ·have hkl : LN.killed s.ring s.last ahead g = s.ring.change (LN.onto ahead (bs g)) := by
    unfold LN.killed
    rw [if_neg hg, if_pos ⟨hl, hr⟩]
   rw [hdd, decide_eq_true hr] at HC
   rw [hkl]
   clear hA h hk2 hd2 hdd hl hr hkl
   go_enter Tryz.func136, Tryz.ntmps136
   go_wp2_with fail
   refine HC.out.mono ?_
   rintro e w3 ⟨rfl, ht⟩
   have hto := HA.out.ring_to ht ⟨HA.out.ok.log, HA.out.ok.lim, HA.out.ok.rt, HA.out.ok.ring.change _, HA.out.ok.rlim⟩
   go_wp2_with fail
   go_end0
   exact ⟨rfl, HS2.out.tom hto⟩
 ·have hk1 : (kdL s.last == 1) = false := by
   cases hq : s.last with
   | none => rfl
   | kill => exact absurd hq hl
   | yank f t => rfl
  have hkl : LN.killed s.ring s.last ahead g = s.ring.push (bs g) := by
   unfold LN.killed
   rw [if_neg hg, if_neg (fun e => hl e.1)]
  rw [hkl]
  have HG := hid hk2
  have HNR : Hid (¬ Rr w.heap.size) := hid (fun hk => by have := objLn.lt h _ (.inl ((hA.hO _).2 (.inr (.inr hk)))); omega)
  clear hA h hk2 hd2 hdd hl hkl HC
  go_enter Tryz.func136, Tryz.ntmps136
  have HP := hid (push_callsS W2.drew Rr r s.ring (HA.out.ring.below Below.drewR) (bs g))
  have HSS : Hid (∀ w' : World, Only Rr W2.drew w' → w'.cell? ⟨b, 1, none⟩ = some (.pointer (some ⟨r, 0, none⟩)) ∧ w'.cell? ⟨w.heap.size, 0, none⟩ = some (.string (bs g))) := hid (fun w' ho => ⟨((HA.out.box.below Below.drewR).keep ho HA.out.nr).c 1 rfl, ho.cell (boxed_bel HG.out Below.drewR).cell HNR.out⟩)
  have s0 := HA.out.box.c 1 rfl
  have s1 := HG.out.cell
  go_upto_region 3 with fail
  refine wp_region_held_drew (S := (fun w' => w'.cell? ⟨b, 1, none⟩ = some (.pointer (some ⟨r, 0, none⟩)) ∧ w'.cell? ⟨w.heap.size, 0, none⟩ = some (.string (bs g)))) (by kernel_rfl) ⟨s0, s1⟩ (fun hHeld => ?_)
  refine tkH 0 ?_
  refine tkH 1 ?_
  refine tkH 2 ?_
  refine tkH 3 ?_
  refine tkH 4 ?_
  refine rdH 5 fun K hK => ?_
  go_simp
  refine HP.out.mono ?_
  rintro e w8 ⟨rfl, ht⟩
  have hS := HSS.out w8 (by obtain ⟨_, _, ho, _⟩ := ht; exact ho)
  have hto := (HA.out.below Below.drewR).ring_to ht ⟨HA.out.ok.log, HA.out.ok.lim, HA.out.ok.rt, HA.out.ok.ring.push _, HA.out.ok.rlim⟩
  have HT := hid (((HS2.out.trans (StepF.below _ _ Below.drewR))).tom hto)
  clear ht hto HP HSS
  refine hK.out _ _ hS (fun hHeld => ?_)
  clear hK K
  refine wpAnyH_done (by kernel_rfl) ?_ _
  go_wp2_with fail
  go_end0
  exact ⟨rfl, HT.out⟩
end
end
section
open Go Go.RowKit
open Go.Lib (hid)
set_option maxRecDepth 100000
section
variable (w : World) (O F : Nat → Prop) (b : Nat) (s : LN)
theorem boxD (w : World) : ∃ W2, w.alloc (.cells #[.int .i64 0, .int .i64 0, .int .i64 0] 60) = W2 ∧ Below w.heap.size w W2 ∧ W2.heap.size = w.heap.size + 1 ∧ BxA W2 w.heap.size 60 [.int .i64 0, .int .i64 0, .int .i64 0] :=
 ⟨_, rfl, (Below.refl _ w).alloc (Nat.le_refl _) _, World.size_alloc _ _, BxA.new w 60 [.int .i64 0, .int .i64 0, .int .i64 0]⟩
set_option maxHeartbeats 2000000 in
theorem kill_callsL (h : LineL w O F b s) (hsp : Spans w) (hB : SmR s.ring 1000000) (f t : Nat) (hf : IsB s.buf.1 f) (ht : IsB s.buf.1 t) (ahead : Bool) :
  Calls Tryz.prog 128 #[.pointer (some ⟨b, 0, none⟩), .int .i64 (f : Int), .int .i64 (t : Int), .func (.func (joinF ahead)) #[] #[]] w fun e w' => e = .returned (dV .kill) ∧ ToLn w O F w' b ⟨(s.cut f t).log, LN.killed s.ring s.last ahead (s.gone f t), s.last⟩ := by
 obtain ⟨W2, hW2, hB2, hs2, hd2⟩ := boxD w
 have HB2 := hid hB2
 have HN2 := hid hs2
 have HD2 := hid hd2
 have H := hid h
 have H2 := hid (objLn.below h hB2)
 have HS := hid hsp
 have hrt := (line_ok h).rt.1
 have hl6 : s.buf.1.length ≤ 137438953472 := Nat.le_trans hrt.2.1 (by decide)
 have e1 : mS s.buf.1 = s.buf.1 := hrt.make.1
 have e2 : mA s.buf.1 s.buf.2 = s.buf.2 := hrt.make.2
 have e3 : backL s.buf.1 (f : Int) = f := hf.back
 have e4 : backL s.buf.1 (t : Int) = t := ht.back
 have HC := hid (fun W hS => cutT_calls s.buf.1 s.buf.2 (f : Int) (t : Int) hl6 W hS)
 rw [e1, e2, e3, e4] at HC
 have HR : Hid (Rt (cutR s.buf.1 s.buf.2 f t).1 (cutR s.buf.1 s.buf.2 f t).2.1) := hid (LN.cutR_rt (line_ok h).rt.1 hf ht)
 have HG : Hid ((cutR s.buf.1 s.buf.2 f t).2.2.length ≤ 600) := hid (LN.gone_le (line_ok h) f t)
 have hcl : (s.cut f t).log = wrG s.log ((cutR s.buf.1 s.buf.2 f t).1, (cutR s.buf.1 s.buf.2 f t).2.1) 0 := rfl
 have hcg : s.gone f t = (cutR s.buf.1 s.buf.2 f t).2.2 := rfl
 rw [hcl, hcg]
 have HSm := hid hB
 clear h hsp hB2 hs2 hd2 hrt hl6 e1 e2 e3 e4 hf ht hcl hcg hB
 generalize cutR s.buf.1 s.buf.2 f t = c at *
 obtain ⟨cs, ca, cg⟩ := c
 dsimp only at HC HR HG ⊢
 go_enter Tryz.func128, Tryz.ntmps128
 go_wp2_with fail
 refine (buf_callsL W2 O F b s H2.out (spans_below HS.out HB2.out)).mono ?_
 rintro e w3 ⟨rfl, hb3⟩
 have HB3 := hid hb3
 clear hb3
 go_wp2_with fail
 refine (HC.out w3 (spans_below HS.out (HB2.out.trans (HB3.out.mono HB2.out.size)))).mono ?_
 rintro e w4 ⟨rfl, hb4⟩
 have hb4' := HB3.out.trans (hb4.mono HB3.out.size)
 have x3 := Bx.new w4 43 (.string ⟨#[]⟩) (.int .i64 0)
 have f0 := x3.f0
 have f1 := x3.f1
 have g0 := x3.c0
 have g1 := x3.c1
 have x4 := Bx.new w4 43 (.string (bs cs)) (.int .i64 (ca : Int))
 have hb5 := hb4'.alloc hb4'.size (.cells #[.string (bs cs), .int .i64 (ca : Int)] 43)
 obtain ⟨W4, hW4⟩ : ∃ W4, w4.alloc (.cells #[.string (bs cs), .int .i64 (ca : Int)] 43) = W4 := ⟨_, rfl⟩
 rw [hW4] at x4 hb5
 have y0 := x4.c0
 have y1 := x4.c1
 have HB5 := hid hb5
 clear x3 x4 hb5 hb4 hb4' HC
 go_wp2_with fail
 refine (write_callsL W4 O F b s (objLn.below H2.out HB5.out) (cs, ca) HR.out).mono ?_
 rintro e w8 ⟨rfl, ht⟩
 by_cases hg : cg = []
 ·subst hg
  have hq : (bs ([] : List UInt8)) = (⟨#[]⟩ : ByteArray) := rfl
  have hf := fin3 H.out HB2.out (Nat.le_refl _) (by have := HN2.out; omega) HD2.out HB5.out ht
  have HF := hid hf.2
  have hd9 := hf.1
  have q0 := hd9.c 0 rfl
  have q1 := hd9.c 1 rfl
  have q2 := hd9.c 2 rfl
  have p0 := hd9.free 0
  have p1 := hd9.free 1
  have p2 := hd9.free 2
  have HD9 := hid hd9
  clear hf hd9
  go_wp2_with fail
  refine bodyPost_ret (results_bx3 rfl _ _ (w.heap.size) _ _ _ 60 rfl (three_box HD9.out _ _ _) Tryz.underlying60 (szD _)) rfl ?_
  exact ⟨rfl, by rw [show LN.killed s.ring s.last ahead [] = s.ring from if_pos rfl]; exact HF.out _ _ _⟩
 ·have hge : cg.isEmpty = false := by cases cg with
   | nil => exact absurd rfl hg
   | cons x l => rfl
  have HT := hid ht
  clear ht
  go_wp2_with fail
  obtain ⟨O8, F8, a1, a2⟩ := HT.out
  refine (keep_callsL w8 O8 F8 b _ a1 cg hg HG.out HSm.out ahead).mono ?_
  rintro e w9 ⟨rfl, ht9⟩
  have ht10 : ToLn W4 O F w9 b ⟨wrG s.log (cs, ca) 0, LN.killed s.ring s.last ahead cg, s.last⟩ := StepF.tom a2 ht9
  have hf := fin3 H.out HB2.out (Nat.le_refl _) (by have := HN2.out; omega) HD2.out HB5.out ht10
  have HF := hid hf.2
  have hd9 := hf.1
  have q0 := hd9.c 0 rfl
  have q1 := hd9.c 1 rfl
  have q2 := hd9.c 2 rfl
  have p0 := hd9.free 0
  have p1 := hd9.free 1
  have p2 := hd9.free 2
  have HD9 := hid hd9
  clear hf hd9
  go_wp2_with fail
  refine bodyPost_ret (results_bx3 rfl _ _ (w.heap.size) _ _ _ 60 rfl (three_box HD9.out _ _ _) Tryz.underlying60 (szD _)) rfl ?_
  exact ⟨rfl, HF.out _ _ _⟩
theorem field_buf1L (a b : Value) : ∀ W : World, (Instr.field 43 (.agg #[a, b]) 1).run Tryz.prog W = .ok b W := fun W => by kernel_rfl
theorem killTo_callsL (h : LineL w O F b s) (hsp : Spans w) (hB : SmR s.ring 1000000) (t : Nat) (hq : IsB s.buf.1 t) :
  Calls Tryz.prog 111 #[.pointer (some ⟨b, 0, none⟩), .int .i64 (t : Int)] w fun e w' => e = .returned (dV .kill) ∧ ToLn w O F w' b ⟨(s.cut s.buf.2 t).log, LN.killed s.ring s.last false (s.gone s.buf.2 t), s.last⟩ := by
 obtain ⟨W2, hW2, hB2, hs2, hd2⟩ := boxD w
 have HB2 := hid hB2
 have HN2 := hid hs2
 have HD2 := hid hd2
 have H := hid h
 have H2 := hid (objLn.below h hB2)
 have HS := hid hsp
 have hat : IsB s.buf.1 s.buf.2 := (line_ok h).rt.1.2.2
 have HK := hid (fun W O' F' (h' : LineL W O' F' b s) hS => kill_callsL W O' F' b s h' hS hB s.buf.2 t hat hq false)
 rw [show joinF false = 129 from rfl] at HK
 have fb := field_buf1L (.string (bs s.buf.1)) (.int .i64 (s.buf.2 : Int))
 clear h hsp hB2 hs2 hd2 hq hat hB
 go_enter Tryz.func111, Tryz.ntmps111
 go_wp2_with fail
 refine (buf_callsL W2 O F b s H2.out (spans_below HS.out HB2.out)).mono ?_
 rintro e w3 ⟨rfl, hb3⟩
 have HB3 := hid hb3
 clear hb3
 go_wp2_with fail
 refine (HK.out w3 O F (objLn.below H2.out HB3.out) (spans_below HS.out (HB2.out.trans (HB3.out.mono HB2.out.size)))).mono ?_
 rintro e w8 ⟨rfl, ht⟩
 have hf := fin3 H.out HB2.out (Nat.le_refl _) (by have := HN2.out; omega) HD2.out HB3.out ht
 have HF := hid hf.2
 have hd9 := hf.1
 have q0 := hd9.c 0 rfl
 have q1 := hd9.c 1 rfl
 have q2 := hd9.c 2 rfl
 have p0 := hd9.free 0
 have p1 := hd9.free 1
 have p2 := hd9.free 2
 have HD9 := hid hd9
 clear hf hd9
 go_wp2_with fail
 refine bodyPost_ret (results_bx3 rfl _ _ (w.heap.size) _ _ _ 60 rfl (three_box HD9.out _ _ _) Tryz.underlying60 (szD _)) rfl ?_
 exact ⟨rfl, HF.out _ _ _⟩
theorem killFrom_callsL (h : LineL w O F b s) (hsp : Spans w) (hB : SmR s.ring 1000000) (f : Nat) (hq : IsB s.buf.1 f) :
  Calls Tryz.prog 112 #[.pointer (some ⟨b, 0, none⟩), .int .i64 (f : Int)] w fun e w' => e = .returned (dV .kill) ∧ ToLn w O F w' b ⟨(s.cut f s.buf.2).log, LN.killed s.ring s.last true (s.gone f s.buf.2), s.last⟩ := by
 obtain ⟨W2, hW2, hB2, hs2, hd2⟩ := boxD w
 have HB2 := hid hB2
 have HN2 := hid hs2
 have HD2 := hid hd2
 have H := hid h
 have H2 := hid (objLn.below h hB2)
 have HS := hid hsp
 have hat : IsB s.buf.1 s.buf.2 := (line_ok h).rt.1.2.2
 have HK := hid (fun W O' F' (h' : LineL W O' F' b s) hS => kill_callsL W O' F' b s h' hS hB f s.buf.2 hq hat true)
 rw [show joinF true = 130 from rfl] at HK
 have fb := field_buf1L (.string (bs s.buf.1)) (.int .i64 (s.buf.2 : Int))
 clear h hsp hB2 hs2 hd2 hq hat hB
 go_enter Tryz.func112, Tryz.ntmps112
 go_wp2_with fail
 refine (buf_callsL W2 O F b s H2.out (spans_below HS.out HB2.out)).mono ?_
 rintro e w3 ⟨rfl, hb3⟩
 have HB3 := hid hb3
 clear hb3
 go_wp2_with fail
 refine (HK.out w3 O F (objLn.below H2.out HB3.out) (spans_below HS.out (HB2.out.trans (HB3.out.mono HB2.out.size)))).mono ?_
 rintro e w8 ⟨rfl, ht⟩
 have hf := fin3 H.out HB2.out (Nat.le_refl _) (by have := HN2.out; omega) HD2.out HB3.out ht
 have HF := hid hf.2
 have hd9 := hf.1
 have q0 := hd9.c 0 rfl
 have q1 := hd9.c 1 rfl
 have q2 := hd9.c 2 rfl
 have p0 := hd9.free 0
 have p1 := hd9.free 1
 have p2 := hd9.free 2
 have HD9 := hid hd9
 clear hf hd9
 go_wp2_with fail
 refine bodyPost_ret (results_bx3 rfl _ _ (w.heap.size) _ _ _ 60 rfl (three_box HD9.out _ _ _) Tryz.underlying60 (szD _)) rfl ?_
 exact ⟨rfl, HF.out _ _ _⟩
end
end
end Go.Proofs.YtoaponaljkhlfaaGreatDoor
