/-
  Layer 7 and what it stands on, part 32 (DocX DocY DocI).
-/
import Derived.Test.YtoaponaljkhlfaaGreatDoorPz31
import Derived.Deep.Cut
import Derived.Lib.Strings
namespace Go.Proofs.YtoaponaljkhlfaaGreatDoor
section
open Go Go.RowKit
open Go.Lib (hid)
set_option maxRecDepth 100000
set_option maxHeartbeats 8000000 in
theorem dwrite_appF (w : World) (D : Nat → Prop) (r : DR) (d : DS) (B : Nat) (h : DsAt w D r d) (hok : d.Ok B) (b : Bi) (hbl : b.1.length ≤ 600) (hne : b ≠ d.now) :
  Calls Tryz.prog 61 #[dsV r d, biV b, .bool false] w fun e w' => ∃ r' d', e = .returned (dsV r' d') ∧ DsTo w D B w' r' d' := by
 obtain ⟨W2, hW2, hB2, hs2, hb0, hb1, hb2⟩ := boxes7b w r d b
 have hcmp := cmp_ne7 hne
 obtain ⟨Wa, hWa⟩ : ∃ Wa, W2.setCell ⟨w.heap.size, 3, none⟩ (.slice none 0 0) = Wa := ⟨_, rfl⟩
 have hba : BxA Wa w.heap.size 32 [.string (bs d.now.1), .int .i64 d.now.2, .slice r.A1 d.back.length r.c1, .slice none 0 0, .bool d.opn, .slice r.A3 d.kills.length r.c3, .int .i64 d.top, .int .i64 d.last, .int .i64 d.fr, .int .i64 d.to_] := by rw [← hWa]; exact hb0.set 3 _
 have hma : BxA Wa (w.heap.size + 1 + 1) 32 dsZ := by rw [← hWa]; exact hb2.other (by omega) _
 have hxa : Bx Wa (w.heap.size + 1) 28 (.string (bs b.1)) (.int .i64 b.2) := by rw [← hWa]; exact hb1.other (by omega) _
 have hBa : Below w.heap.size w Wa := by rw [← hWa]; exact hB2.setCell (p := ⟨w.heap.size, 3, none⟩) (Nat.le_refl _) _
 have hszA : w.heap.size + 3 = Wa.heap.size := by rw [← hWa, ← hs2]; simp [World.setCell]
 have hszB : w.heap.size ≤ Wa.heap.size := by omega
 have hb0' := hb0
 unfold dsK at hb0'
 have k0 := hb0'.c 0 rfl
 have k1 := hb0'.c 1 rfl
 have k2 := hb0'.c 2 rfl
 have k3 := hb0'.c 3 rfl
 have k4 := hb0'.c 4 rfl
 have k5 := hb0'.c 5 rfl
 have k6 := hb0'.c 6 rfl
 have k7 := hb0'.c 7 rfl
 have k8 := hb0'.c 8 rfl
 have k9 := hb0'.c 9 rfl
 have g3 := hb0'.free 3
 have j0 := hb1.c0
 have j1 := hb1.c1
 have a2 := hba.c 2 rfl
 have a4 := hba.c 4 rfl
 have HbW := hid hba
 have HmW := hid hma
 have HxW := hid hxa
 have HBW := hid hBa
 have HD := hid h
 have HO := hid hok
 have HRow := hid ((h.below hBa).back.row)
 have HNil := hid h.back.nil
 have hl32 := hok.len
 have HLen : Hid (d.back.length ≤ 100000) := hid (by omega)
 have HszA := hid hszA
 clear hb0 hb0' hb1 hb2 hba hma hxa hBa hB2 hs2 h hok hne hszA
 unfold dsV biV
 go_enter Tryz.func61, Tryz.ntmps61
 go_upto_region 6 with fail
 go_cut [33] from 26 (fun s33 wc => ∃ A' c' w4, s33 = .slice A' (d.back.length + 1) c' ∧ wc = w4.setCell ⟨w.heap.size, 2, none⟩ (.slice A' (d.back.length + 1) c') ∧ Hid (SnocT Wa d.back d.now A' c' w4))
 case first =>
  have qW : Wa.cell? ⟨w.heap.size, 2, none⟩ = some (.slice r.A1 d.back.length r.c1) ∧ Wa.cell? ⟨w.heap.size, 0, none⟩ = some (.string (bs d.now.1)) ∧ Wa.cell? ⟨w.heap.size, 1, none⟩ = some (.int .i64 d.now.2) := ⟨HbW.out.c 2 rfl, HbW.out.c 0 rfl, HbW.out.c 1 rfl⟩
  have qE : (Wa.alloc (.cells #[] 28)).cell? ⟨w.heap.size, 2, none⟩ = some (.slice r.A1 d.back.length r.c1) ∧ (Wa.alloc (.cells #[] 28)).cell? ⟨w.heap.size, 0, none⟩ = some (.string (bs d.now.1)) ∧ (Wa.alloc (.cells #[] 28)).cell? ⟨w.heap.size, 1, none⟩ = some (.int .i64 d.now.2) := ⟨(HbW.out.alloc (.cells #[] 28)).c 2 rfl, (HbW.out.alloc (.cells #[] 28)).c 0 rfl, (HbW.out.alloc (.cells #[] 28)).c 1 rfl⟩
  have qX : (Wa.alloc (.cells #[.string (bs d.now.1), .int .i64 d.now.2] 28)).cell? ⟨w.heap.size, 2, none⟩ = some (.slice r.A1 d.back.length r.c1) ∧ (Wa.alloc (.cells #[.string (bs d.now.1), .int .i64 d.now.2] 28)).cell? ⟨w.heap.size, 0, none⟩ = some (.string (bs d.now.1)) ∧ (Wa.alloc (.cells #[.string (bs d.now.1), .int .i64 d.now.2] 28)).cell? ⟨w.heap.size, 1, none⟩ = some (.int .i64 d.now.2) := ⟨(HbW.out.alloc (.cells #[.string (bs d.now.1), .int .i64 d.now.2] 28)).c 2 rfl, (HbW.out.alloc (.cells #[.string (bs d.now.1), .int .i64 d.now.2] 28)).c 0 rfl, (HbW.out.alloc (.cells #[.string (bs d.now.1), .int .i64 d.now.2] 28)).c 1 rfl⟩
  have qEX : ((Wa.alloc (.cells #[] 28)).alloc (.cells #[.string (bs d.now.1), .int .i64 d.now.2] 28)).cell? ⟨w.heap.size, 2, none⟩ = some (.slice r.A1 d.back.length r.c1) ∧ ((Wa.alloc (.cells #[] 28)).alloc (.cells #[.string (bs d.now.1), .int .i64 d.now.2] 28)).cell? ⟨w.heap.size, 0, none⟩ = some (.string (bs d.now.1)) ∧ ((Wa.alloc (.cells #[] 28)).alloc (.cells #[.string (bs d.now.1), .int .i64 d.now.2] 28)).cell? ⟨w.heap.size, 1, none⟩ = some (.int .i64 d.now.2) := ⟨((HbW.out.alloc (.cells #[] 28)).alloc (.cells #[.string (bs d.now.1), .int .i64 d.now.2] 28)).c 2 rfl, ((HbW.out.alloc (.cells #[] 28)).alloc (.cells #[.string (bs d.now.1), .int .i64 d.now.2] 28)).c 0 rfl, ((HbW.out.alloc (.cells #[] 28)).alloc (.cells #[.string (bs d.now.1), .int .i64 d.now.2] 28)).c 1 rfl⟩
  have qXE : ((Wa.alloc (.cells #[.string (bs d.now.1), .int .i64 d.now.2] 28)).alloc (.cells #[] 28)).cell? ⟨w.heap.size, 2, none⟩ = some (.slice r.A1 d.back.length r.c1) ∧ ((Wa.alloc (.cells #[.string (bs d.now.1), .int .i64 d.now.2] 28)).alloc (.cells #[] 28)).cell? ⟨w.heap.size, 0, none⟩ = some (.string (bs d.now.1)) ∧ ((Wa.alloc (.cells #[.string (bs d.now.1), .int .i64 d.now.2] 28)).alloc (.cells #[] 28)).cell? ⟨w.heap.size, 1, none⟩ = some (.int .i64 d.now.2) := ⟨((HbW.out.alloc (.cells #[.string (bs d.now.1), .int .i64 d.now.2] 28)).alloc (.cells #[] 28)).c 2 rfl, ((HbW.out.alloc (.cells #[.string (bs d.now.1), .int .i64 d.now.2] 28)).alloc (.cells #[] 28)).c 0 rfl, ((HbW.out.alloc (.cells #[.string (bs d.now.1), .int .i64 d.now.2] 28)).alloc (.cells #[] 28)).c 1 rfl⟩
  refine wp_region_last (S := (fun w' => w'.cell? ⟨w.heap.size, 2, none⟩ = some (.slice r.A1 d.back.length r.c1) ∧ w'.cell? ⟨w.heap.size, 0, none⟩ = some (.string (bs d.now.1)) ∧ w'.cell? ⟨w.heap.size, 1, none⟩ = some (.int .i64 d.now.2))) 9 (by kernel_rfl) qW (fun hHeld => ?_)
  refine tkL 1 ?_
  refine tkL 2 ?_
  refine tkL 4 ?_
  refine tkL 5 ?_
  refine lastAny_ready (rs := [0, 6]) (by kernel_rfl) (by simp) ?_
  refine AllReadyL.cons (o := ⟨some 26, _, _, _, _, _⟩) rfl (fun K hK => ?_) (AllReadyL.cons (o := ⟨some 32, _, _, _, _, _⟩) rfl (fun K hK => ?_) AllReadyL.nil)
  ·(rw [if_pos (by kernel_rfl)])
   go_simp
   refine hK.out _ _ qE (fun hHeld => ?_)
   clear hK K
   refine lastAny_ready (rs := [3, 6]) (by kernel_rfl) (by simp) ?_
   refine AllReadyL.cons (o := ⟨some 29, _, _, _, _, _⟩) rfl (fun K hK => ?_) (AllReadyL.cons (o := ⟨some 32, _, _, _, _, _⟩) rfl (fun K hK => ?_) AllReadyL.nil)
   ·obtain ⟨v2, w2, hr1, hb2, A', c', w4, hr2, hf⟩ := snocTA Wa.drew r.A1 r.c1 d.back d.now HRow.out HNil.out HLen.out
    rw [show Wa.drew.heap.size = Wa.heap.size from rfl] at hr1 hb2
    (try rw [show Wa.drew.heap.size = Wa.heap.size from rfl] at hr2)
    have Hr1 := hid hr1
    have Hr2 := hid hr2
    have HF := hid hf.undrew
    have hb2' : Below Wa.heap.size Wa w2 := ⟨hb2.os, hb2.tape, hb2.output, hb2.size, hb2.block⟩
    have hx2 := HbW.out.below hb2'
    have hb4 : Below Wa.heap.size Wa w4 := ⟨hf.1.os, hf.1.tape, hf.1.output, hf.1.size, hf.1.block⟩
    have hx4 := HbW.out.below hb4
    have q2 : (w2).cell? ⟨w.heap.size, 2, none⟩ = some (.slice r.A1 d.back.length r.c1) ∧ (w2).cell? ⟨w.heap.size, 0, none⟩ = some (.string (bs d.now.1)) ∧ (w2).cell? ⟨w.heap.size, 1, none⟩ = some (.int .i64 d.now.2) := ⟨hx2.c 2 rfl, hx2.c 0 rfl, hx2.c 1 rfl⟩
    have q2X : (w2.alloc (.cells #[.string (bs d.now.1), .int .i64 d.now.2] 28)).cell? ⟨w.heap.size, 2, none⟩ = some (.slice r.A1 d.back.length r.c1) ∧ (w2.alloc (.cells #[.string (bs d.now.1), .int .i64 d.now.2] 28)).cell? ⟨w.heap.size, 0, none⟩ = some (.string (bs d.now.1)) ∧ (w2.alloc (.cells #[.string (bs d.now.1), .int .i64 d.now.2] 28)).cell? ⟨w.heap.size, 1, none⟩ = some (.int .i64 d.now.2) := ⟨(hx2.alloc (.cells #[.string (bs d.now.1), .int .i64 d.now.2] 28)).c 2 rfl, (hx2.alloc (.cells #[.string (bs d.now.1), .int .i64 d.now.2] 28)).c 0 rfl, (hx2.alloc (.cells #[.string (bs d.now.1), .int .i64 d.now.2] 28)).c 1 rfl⟩
    have q4 : (w4).cell? ⟨w.heap.size, 2, none⟩ = some (.slice r.A1 d.back.length r.c1) ∧ (w4).cell? ⟨w.heap.size, 0, none⟩ = some (.string (bs d.now.1)) ∧ (w4).cell? ⟨w.heap.size, 1, none⟩ = some (.int .i64 d.now.2) := ⟨hx4.c 2 rfl, hx4.c 0 rfl, hx4.c 1 rfl⟩
    have qf4 := hx4.free 2
    have qc4 := hx4.c 2 rfl
    clear hr1 hr2 hf hb2 hb2' hb4 hx2 hx4
    refine step_append_g (by kernel_rfl) (.tmp 26) (.tmp 28) 29 rfl _ _ rfl rfl Hr1.out ?_
    refine hK.out _ _ q2 (fun hHeld => ?_)
    clear hK K
    refine rdL 6 fun K hK => ?_
    go_simp
    refine hK.out _ _ q2X (fun hHeld => ?_)
    clear hK K
    refine lastAny_ready (rs := [7]) (by kernel_rfl) (by simp) ?_
    refine AllReadyL.cons (o := ⟨some 33, _, _, _, _, _⟩) rfl (fun K hK => ?_) AllReadyL.nil
    refine step_append_g (by kernel_rfl) (.tmp 29) (.tmp 32) 29 rfl _ _ rfl rfl Hr2.out ?_
    refine hK.out _ _ q4 (fun hHeld => ?_)
    clear hK K
    refine tkL 8 ?_
    refine enL fun K hK => ?_
    go_simp
    refine hK.out _ _ ?_
    clear hK K
    clear qW qE qX qEX qXE q2 q2X Hr1 Hr2 hHeld
    go_wp2_with fail
    go_meet
    exact ⟨A', c', w4, rfl, rfl, HF⟩
   ·(rw [if_pos (by kernel_rfl)])
    go_simp
    refine hK.out _ _ qEX (fun hHeld => ?_)
    clear hK K
    obtain ⟨v2, w2, hr1, hb2, A', c', w4, hr2, hf⟩ := snocTB Wa.drew r.A1 r.c1 d.back d.now HRow.out HNil.out HLen.out
    rw [show Wa.drew.heap.size = Wa.heap.size from rfl] at hr1 hb2
    (try rw [show Wa.drew.heap.size = Wa.heap.size from rfl] at hr2)
    have Hr1 := hid hr1
    have Hr2 := hid hr2
    have HF := hid hf.undrew
    have hb2' : Below Wa.heap.size Wa w2 := ⟨hb2.os, hb2.tape, hb2.output, hb2.size, hb2.block⟩
    have hx2 := HbW.out.below hb2'
    have hb4 : Below Wa.heap.size Wa w4 := ⟨hf.1.os, hf.1.tape, hf.1.output, hf.1.size, hf.1.block⟩
    have hx4 := HbW.out.below hb4
    have q2 : (w2).cell? ⟨w.heap.size, 2, none⟩ = some (.slice r.A1 d.back.length r.c1) ∧ (w2).cell? ⟨w.heap.size, 0, none⟩ = some (.string (bs d.now.1)) ∧ (w2).cell? ⟨w.heap.size, 1, none⟩ = some (.int .i64 d.now.2) := ⟨hx2.c 2 rfl, hx2.c 0 rfl, hx2.c 1 rfl⟩
    have q2X : (w2.alloc (.cells #[.string (bs d.now.1), .int .i64 d.now.2] 28)).cell? ⟨w.heap.size, 2, none⟩ = some (.slice r.A1 d.back.length r.c1) ∧ (w2.alloc (.cells #[.string (bs d.now.1), .int .i64 d.now.2] 28)).cell? ⟨w.heap.size, 0, none⟩ = some (.string (bs d.now.1)) ∧ (w2.alloc (.cells #[.string (bs d.now.1), .int .i64 d.now.2] 28)).cell? ⟨w.heap.size, 1, none⟩ = some (.int .i64 d.now.2) := ⟨(hx2.alloc (.cells #[.string (bs d.now.1), .int .i64 d.now.2] 28)).c 2 rfl, (hx2.alloc (.cells #[.string (bs d.now.1), .int .i64 d.now.2] 28)).c 0 rfl, (hx2.alloc (.cells #[.string (bs d.now.1), .int .i64 d.now.2] 28)).c 1 rfl⟩
    have q4 : (w4).cell? ⟨w.heap.size, 2, none⟩ = some (.slice r.A1 d.back.length r.c1) ∧ (w4).cell? ⟨w.heap.size, 0, none⟩ = some (.string (bs d.now.1)) ∧ (w4).cell? ⟨w.heap.size, 1, none⟩ = some (.int .i64 d.now.2) := ⟨hx4.c 2 rfl, hx4.c 0 rfl, hx4.c 1 rfl⟩
    have qf4 := hx4.free 2
    have qc4 := hx4.c 2 rfl
    clear hr1 hr2 hf hb2 hb2' hb4 hx2 hx4
    refine lastAny_ready (rs := [3]) (by kernel_rfl) (by simp) ?_
    refine AllReadyL.cons (o := ⟨some 29, _, _, _, _, _⟩) rfl (fun K hK => ?_) AllReadyL.nil
    refine step_append_g (by kernel_rfl) (.tmp 26) (.tmp 28) 29 rfl _ _ rfl rfl Hr1.out ?_
    refine hK.out _ _ q2 (fun hHeld => ?_)
    clear hK K
    refine lastAny_ready (rs := [7]) (by kernel_rfl) (by simp) ?_
    refine AllReadyL.cons (o := ⟨some 33, _, _, _, _, _⟩) rfl (fun K hK => ?_) AllReadyL.nil
    refine step_append_g (by kernel_rfl) (.tmp 29) (.tmp 32) 29 rfl _ _ rfl rfl Hr2.out ?_
    refine hK.out _ _ q4 (fun hHeld => ?_)
    clear hK K
    refine tkL 8 ?_
    refine enL fun K hK => ?_
    go_simp
    refine hK.out _ _ ?_
    clear hK K
    clear qW qE qX qEX qXE q2 q2X Hr1 Hr2 hHeld
    go_wp2_with fail
    go_meet
    exact ⟨A', c', w4, rfl, rfl, HF⟩
  ·(rw [if_pos (by kernel_rfl)])
   go_simp
   refine hK.out _ _ qX (fun hHeld => ?_)
   clear hK K
   refine rdL 0 fun K hK => ?_
   go_simp
   refine hK.out _ _ qXE (fun hHeld => ?_)
   clear hK K
   obtain ⟨v2, w2, hr1, hb2, A', c', w4, hr2, hf⟩ := snocTC Wa.drew r.A1 r.c1 d.back d.now HRow.out HNil.out HLen.out
   rw [show Wa.drew.heap.size = Wa.heap.size from rfl] at hr1 hb2
   (try rw [show Wa.drew.heap.size = Wa.heap.size from rfl] at hr2)
   have Hr1 := hid hr1
   have Hr2 := hid hr2
   have HF := hid hf.undrew
   have hb2' : Below Wa.heap.size Wa w2 := ⟨hb2.os, hb2.tape, hb2.output, hb2.size, hb2.block⟩
   have hx2 := HbW.out.below hb2'
   have hb4 : Below Wa.heap.size Wa w4 := ⟨hf.1.os, hf.1.tape, hf.1.output, hf.1.size, hf.1.block⟩
   have hx4 := HbW.out.below hb4
   have q2 : (w2).cell? ⟨w.heap.size, 2, none⟩ = some (.slice r.A1 d.back.length r.c1) ∧ (w2).cell? ⟨w.heap.size, 0, none⟩ = some (.string (bs d.now.1)) ∧ (w2).cell? ⟨w.heap.size, 1, none⟩ = some (.int .i64 d.now.2) := ⟨hx2.c 2 rfl, hx2.c 0 rfl, hx2.c 1 rfl⟩
   have q2X : (w2.alloc (.cells #[.string (bs d.now.1), .int .i64 d.now.2] 28)).cell? ⟨w.heap.size, 2, none⟩ = some (.slice r.A1 d.back.length r.c1) ∧ (w2.alloc (.cells #[.string (bs d.now.1), .int .i64 d.now.2] 28)).cell? ⟨w.heap.size, 0, none⟩ = some (.string (bs d.now.1)) ∧ (w2.alloc (.cells #[.string (bs d.now.1), .int .i64 d.now.2] 28)).cell? ⟨w.heap.size, 1, none⟩ = some (.int .i64 d.now.2) := ⟨(hx2.alloc (.cells #[.string (bs d.now.1), .int .i64 d.now.2] 28)).c 2 rfl, (hx2.alloc (.cells #[.string (bs d.now.1), .int .i64 d.now.2] 28)).c 0 rfl, (hx2.alloc (.cells #[.string (bs d.now.1), .int .i64 d.now.2] 28)).c 1 rfl⟩
   have q4 : (w4).cell? ⟨w.heap.size, 2, none⟩ = some (.slice r.A1 d.back.length r.c1) ∧ (w4).cell? ⟨w.heap.size, 0, none⟩ = some (.string (bs d.now.1)) ∧ (w4).cell? ⟨w.heap.size, 1, none⟩ = some (.int .i64 d.now.2) := ⟨hx4.c 2 rfl, hx4.c 0 rfl, hx4.c 1 rfl⟩
   have qf4 := hx4.free 2
   have qc4 := hx4.c 2 rfl
   clear hr1 hr2 hf hb2 hb2' hb4 hx2 hx4
   refine lastAny_ready (rs := [3]) (by kernel_rfl) (by simp) ?_
   refine AllReadyL.cons (o := ⟨some 29, _, _, _, _, _⟩) rfl (fun K hK => ?_) AllReadyL.nil
   refine step_append_g (by kernel_rfl) (.tmp 26) (.tmp 28) 29 rfl _ _ rfl rfl Hr1.out ?_
   refine hK.out _ _ q2 (fun hHeld => ?_)
   clear hK K
   refine lastAny_ready (rs := [7]) (by kernel_rfl) (by simp) ?_
   refine AllReadyL.cons (o := ⟨some 33, _, _, _, _, _⟩) rfl (fun K hK => ?_) AllReadyL.nil
   refine step_append_g (by kernel_rfl) (.tmp 29) (.tmp 32) 29 rfl _ _ rfl rfl Hr2.out ?_
   refine hK.out _ _ q4 (fun hHeld => ?_)
   clear hK K
   refine tkL 8 ?_
   refine enL fun K hK => ?_
   go_simp
   refine hK.out _ _ ?_
   clear hK K
   clear qW qE qX qEX qXE q2 q2X Hr1 Hr2 hHeld
   go_wp2_with fail
   go_meet
   exact ⟨A', c', w4, rfl, rfl, HF⟩
 case rest =>
  obtain ⟨A', c', w4, rfl, hwc, hF⟩ := hcut
  obtain ⟨hb4, hrow, hcc, hcm, hcn, hfr⟩ := hF.out
  obtain ⟨ga, oa, rfl, _⟩ := id hrow (by simp)
  have hszA := HszA.out
  have hbc : BxA wc w.heap.size 32 [.string (bs d.now.1), .int .i64 d.now.2, .slice (some ⟨ga, oa, none⟩) (d.back.length + 1) c', .slice none 0 0, .bool d.opn, .slice r.A3 d.kills.length r.c3, .int .i64 d.top, .int .i64 d.last, .int .i64 d.fr, .int .i64 d.to_] := by rw [hwc]; exact (HbW.out.below hb4).set 2 _
  have hmc : BxA wc (w.heap.size + 1 + 1) 32 dsZ := by rw [hwc]; exact (HmW.out.below hb4).other (by omega) _
  have hxc : Bx wc (w.heap.size + 1) 28 (.string (bs b.1)) (.int .i64 b.2) := by rw [hwc]; exact (HxW.out.below hb4).other (by omega) _
  have hBc : Below w.heap.size w wc := by rw [hwc]; exact (HBW.out.trans (hb4.mono HBW.out.size)).setCell (p := ⟨w.heap.size, 2, none⟩) (Nat.le_refl _) _
  have j0 := hxc.c0
  have j1 := hxc.c1
  clear hW2 hWa hcn hfr hxc HbW HmW HxW HBW HRow HNil HLen
  clear k0 k1 k2 k3 k4 k5 k6 k7 k8 k9 g3 a2 a4
  by_cases h32 : 32 < d.back.length + 1
  ·obtain ⟨W5, hW5⟩ : ∃ W5, (((wc.setCell ⟨w.heap.size, 2, none⟩ (.slice (some ⟨ga, oa + 2, none⟩) d.back.length (c' - 1))).setCell ⟨w.heap.size, 0, none⟩ (.string (bs b.1))).setCell ⟨w.heap.size, 1, none⟩ (.int .i64 b.2)).setCell ⟨w.heap.size, 4, none⟩ (.bool false) = W5 := ⟨_, rfl⟩
   have hb5 : BxA W5 w.heap.size 32 [.string (bs b.1), .int .i64 b.2, .slice (some ⟨ga, oa + 2, none⟩) d.back.length (c' - 1), .slice none 0 0, .bool false, .slice r.A3 d.kills.length r.c3, .int .i64 d.top, .int .i64 d.last, .int .i64 d.fr, .int .i64 d.to_] := by rw [← hW5]; exact (((hbc.set 2 _).set 0 _).set 1 _).set 4 _
   have hm5 : BxA W5 (w.heap.size + 1 + 1) 32 dsZ := by rw [← hW5]; exact (((hmc.other (by omega) _).other (by omega) _).other (by omega) _).other (by omega) _
   have hB5 : Below w.heap.size w W5 := by rw [← hW5]; exact (((hBc.setCell (p := ⟨w.heap.size, 2, none⟩) (Nat.le_refl _) _).setCell (p := ⟨w.heap.size, 0, none⟩) (Nat.le_refl _) _).setCell (p := ⟨w.heap.size, 1, none⟩) (Nat.le_refl _) _).setCell (p := ⟨w.heap.size, 4, none⟩) (Nat.le_refl _) _
   have ho5 : Only (fun i => i = w.heap.size) w4 W5 := by rw [← hW5, hwc]; exact (((((Only.refl (fun i => i = w.heap.size) w4).set (p := ⟨w.heap.size, 2, none⟩) (.inl rfl) _).set (p := ⟨w.heap.size, 2, none⟩) (.inl rfl) _).set (p := ⟨w.heap.size, 0, none⟩) (.inl rfl) _).set (p := ⟨w.heap.size, 1, none⟩) (.inl rfl) _).set (p := ⟨w.heap.size, 4, none⟩) (.inl rfl) _
   have k0 := hbc.c 0 rfl
   have k1 := hbc.c 1 rfl
   have k2 := hbc.c 2 rfl
   have k4 := hbc.c 4 rfl
   have u0 := hbc.free 0
   have u1 := hbc.free 1
   have u2 := hbc.free 2
   have u4 := hbc.free 4
   have c0 := hb5.c 0 rfl
   have c1 := hb5.c 1 rfl
   have c2 := hb5.c 2 rfl
   have c3 := hb5.c 3 rfl
   have c4 := hb5.c 4 rfl
   have c5 := hb5.c 5 rfl
   have c6 := hb5.c 6 rfl
   have c7 := hb5.c 7 rfl
   have c8 := hb5.c 8 rfl
   have c9 := hb5.c 9 rfl
   have e0 := hm5.c 0 rfl
   have e1 := hm5.c 1 rfl
   have e2 := hm5.c 2 rfl
   have e3 := hm5.c 3 rfl
   have e4 := hm5.c 4 rfl
   have e5 := hm5.c 5 rfl
   have e6 := hm5.c 6 rfl
   have e7 := hm5.c 7 rfl
   have e8 := hm5.c 8 rfl
   have e9 := hm5.c 9 rfl
   have f0 := hm5.free 0
   have f1 := hm5.free 1
   have f2 := hm5.free 2
   have f3 := hm5.free 3
   have f4 := hm5.free 4
   have f5 := hm5.free 5
   have f6 := hm5.free 6
   have f7 := hm5.free 7
   have f8 := hm5.free 8
   have f9 := hm5.free 9
   have hl1 : (1 : Int) ≤ ((d.back.length + 1 : Nat) : Int) := by omega
   have hgt : ((32 : Int) < ((d.back.length + 1 : Nat) : Int)) := by omega
   have hif : (if c' = 1 then some (⟨ga, oa, none⟩ : Addr) else some ⟨ga, oa + 2, none⟩) = some ⟨ga, oa + 2, none⟩ := if_neg (by omega)
   have hgt' : 32 < d.back.length + 1 := h32
   have hdd : decide ((32 : Int) < ((d.back.length + 1 : Nat) : Int)) = true := decide_eq_true hgt
   have hD5 : w.heap.size ≤ W5.heap.size := hB5.size
   have hrow5 : RowT biC W5 (fun k => (Wa.heap.size ≤ k ∧ k < w4.heap.size)) (some ⟨ga, oa + 1 * 2, none⟩) ((d.back ++ [d.now]).drop 1) := (RowT.drop (C := biC) biC_length hrow 1).keep ho5 (fun i hi (e : i = _) => by have := hszA; omega)
   have hlen5 : ((d.back ++ [d.now]).drop 1).length = d.back.length := by simp
   have hBT : Below w.heap.size w (ten W5 (w.heap.size + 1 + 1) (.string (bs b.1)) (.int .i64 b.2) (.slice (some ⟨ga, oa + 2, none⟩) d.back.length (c' - 1)) (.slice none 0 0) (.bool false) (.slice r.A3 d.kills.length r.c3) (.int .i64 d.top) (.int .i64 d.last) (.int .i64 d.fr) (.int .i64 d.to_)) := hB5.trans ((ten_only W5 _ _ _ _ _ _ _ _ _ _ _).below hB5.size (fun i (hi : i = _) => by omega))
   have hfin : DsTo w D B (ten W5 (w.heap.size + 1 + 1) (.string (bs b.1)) (.int .i64 b.2) (.slice (some ⟨ga, oa + 2, none⟩) d.back.length (c' - 1)) (.slice none 0 0) (.bool false) (.slice r.A3 d.kills.length r.c3) (.int .i64 d.top) (.int .i64 d.last) (.int .i64 d.fr) (.int .i64 d.to_)) ⟨some ⟨ga, oa + 1 * 2, none⟩, c' - 1, none, 0, r.A3, r.c3⟩ ⟨b, (d.back ++ [d.now]).drop 1, [], false, d.kills, d.top, d.last, d.fr, d.to_⟩ := by
    refine ⟨fun k => D k ∨ (Wa.heap.size ≤ k ∧ k < w4.heap.size), ⟨fun k hk => ?_, ⟨(hrow5.keep (ten_only W5 _ _ _ _ _ _ _ _ _ _ _) (fun i hi (e : i = _) => by omega)).mono (fun k hk => .inr hk), ?_, ?_, fun e => by cases e⟩, RowD.empty _ _ _, ((HD.out.below hBT).kills).mono (fun k hk => .inl hk)⟩, ⟨hbl, (fun x hx => ?_), (fun _ hx => absurd hx List.not_mem_nil), ?_, HO.out.kills, HO.out.small, HO.out.top⟩, fun k hk => ?_, hBT⟩
    ·have h2 := ho5.size
     have h3 := (ten_only W5 (w.heap.size + 1 + 1) (.string (bs b.1)) (.int .i64 b.2) (.slice (some ⟨ga, oa + 2, none⟩) d.back.length (c' - 1)) (.slice none 0 0) (.bool false) (.slice r.A3 d.kills.length r.c3) (.int .i64 d.top) (.int .i64 d.last) (.int .i64 d.fr) (.int .i64 d.to_)).size
     rcases hk with hk | hk
     ·exact Nat.lt_of_lt_of_le (HD.out.lt k hk) hBT.size
     ·exact Nat.lt_of_lt_of_le hk.2 (Nat.le_trans h2 h3)
    ·show ((d.back ++ [d.now]).drop 1).length ≤ c' - 1
     omega
    ·show c' - 1 ≤ maxLen
     omega
    ·rcases List.mem_append.1 (List.mem_of_mem_drop hx) with h1 | h1
     ·exact HO.out.back x h1
     ·rw [List.mem_singleton.1 h1]; exact HO.out.now
    ·have := HO.out.len
     show ((d.back ++ [d.now]).drop 1).length + 0 ≤ 32
     omega
    ·rcases hk with hk | hk
     ·exact .inl hk
     ·exact .inr (Nat.le_trans hszB hk.1)
   have HX := hid hm5
   have HF := hid hfin
   have HL5 := hid hlen5
   clear hbc hmc hb5 hm5 hB5 ho5 hrow5 hrow hBc hwc hlen5 hF hszA hBT hfin HD HO
   go_wp2_with fail
   refine bodyPost_ret (results_bx10 rfl _ _ ((w.heap.size + 1 + 1)) _ _ _ _ _ _ _ _ _ _ 32 rfl (ten_box HX.out _ _ _ _ _ _ _ _ _ _) Tryz.underlying32 (szS _)) rfl ?_
   refine ⟨_, _, ?_, HF.out⟩
   (try unfold dsV)
   simp only [HL5.out]
   (try rfl)
  ·obtain ⟨W5, hW5⟩ : ∃ W5, ((wc.setCell ⟨w.heap.size, 0, none⟩ (.string (bs b.1))).setCell ⟨w.heap.size, 1, none⟩ (.int .i64 b.2)).setCell ⟨w.heap.size, 4, none⟩ (.bool false) = W5 := ⟨_, rfl⟩
   have hb5 : BxA W5 w.heap.size 32 [.string (bs b.1), .int .i64 b.2, .slice (some ⟨ga, oa, none⟩) (d.back.length + 1) c', .slice none 0 0, .bool false, .slice r.A3 d.kills.length r.c3, .int .i64 d.top, .int .i64 d.last, .int .i64 d.fr, .int .i64 d.to_] := by rw [← hW5]; exact (((hbc).set 0 _).set 1 _).set 4 _
   have hm5 : BxA W5 (w.heap.size + 1 + 1) 32 dsZ := by rw [← hW5]; exact ((hmc.other (by omega) _).other (by omega) _).other (by omega) _
   have hB5 : Below w.heap.size w W5 := by rw [← hW5]; exact ((hBc.setCell (p := ⟨w.heap.size, 0, none⟩) (Nat.le_refl _) _).setCell (p := ⟨w.heap.size, 1, none⟩) (Nat.le_refl _) _).setCell (p := ⟨w.heap.size, 4, none⟩) (Nat.le_refl _) _
   have ho5 : Only (fun i => i = w.heap.size) w4 W5 := by rw [← hW5, hwc]; exact ((((Only.refl (fun i => i = w.heap.size) w4).set (p := ⟨w.heap.size, 2, none⟩) (.inl rfl) _).set (p := ⟨w.heap.size, 0, none⟩) (.inl rfl) _).set (p := ⟨w.heap.size, 1, none⟩) (.inl rfl) _).set (p := ⟨w.heap.size, 4, none⟩) (.inl rfl) _
   have k0 := hbc.c 0 rfl
   have k1 := hbc.c 1 rfl
   have k2 := hbc.c 2 rfl
   have k4 := hbc.c 4 rfl
   have u0 := hbc.free 0
   have u1 := hbc.free 1
   have u2 := hbc.free 2
   have u4 := hbc.free 4
   have c0 := hb5.c 0 rfl
   have c1 := hb5.c 1 rfl
   have c2 := hb5.c 2 rfl
   have c3 := hb5.c 3 rfl
   have c4 := hb5.c 4 rfl
   have c5 := hb5.c 5 rfl
   have c6 := hb5.c 6 rfl
   have c7 := hb5.c 7 rfl
   have c8 := hb5.c 8 rfl
   have c9 := hb5.c 9 rfl
   have e0 := hm5.c 0 rfl
   have e1 := hm5.c 1 rfl
   have e2 := hm5.c 2 rfl
   have e3 := hm5.c 3 rfl
   have e4 := hm5.c 4 rfl
   have e5 := hm5.c 5 rfl
   have e6 := hm5.c 6 rfl
   have e7 := hm5.c 7 rfl
   have e8 := hm5.c 8 rfl
   have e9 := hm5.c 9 rfl
   have f0 := hm5.free 0
   have f1 := hm5.free 1
   have f2 := hm5.free 2
   have f3 := hm5.free 3
   have f4 := hm5.free 4
   have f5 := hm5.free 5
   have f6 := hm5.free 6
   have f7 := hm5.free 7
   have f8 := hm5.free 8
   have f9 := hm5.free 9
   have hgt : ¬ ((32 : Int) < ((d.back.length + 1 : Nat) : Int)) := by omega
   have hdd : decide ((32 : Int) < ((d.back.length + 1 : Nat) : Int)) = false := decide_eq_false hgt
   have hD5 : w.heap.size ≤ W5.heap.size := hB5.size
   have hrow5 : RowT biC W5 (fun k => (Wa.heap.size ≤ k ∧ k < w4.heap.size)) (some ⟨ga, oa, none⟩) (d.back ++ [d.now]) := hrow.keep ho5 (fun i hi (e : i = _) => by have := hszA; omega)
   have hlen5 : (d.back ++ [d.now]).length = d.back.length + 1 := by simp
   have hBT : Below w.heap.size w (ten W5 (w.heap.size + 1 + 1) (.string (bs b.1)) (.int .i64 b.2) (.slice (some ⟨ga, oa, none⟩) (d.back.length + 1) c') (.slice none 0 0) (.bool false) (.slice r.A3 d.kills.length r.c3) (.int .i64 d.top) (.int .i64 d.last) (.int .i64 d.fr) (.int .i64 d.to_)) := hB5.trans ((ten_only W5 _ _ _ _ _ _ _ _ _ _ _).below hB5.size (fun i (hi : i = _) => by omega))
   have hfin : DsTo w D B (ten W5 (w.heap.size + 1 + 1) (.string (bs b.1)) (.int .i64 b.2) (.slice (some ⟨ga, oa, none⟩) (d.back.length + 1) c') (.slice none 0 0) (.bool false) (.slice r.A3 d.kills.length r.c3) (.int .i64 d.top) (.int .i64 d.last) (.int .i64 d.fr) (.int .i64 d.to_)) ⟨some ⟨ga, oa, none⟩, c', none, 0, r.A3, r.c3⟩ ⟨b, d.back ++ [d.now], [], false, d.kills, d.top, d.last, d.fr, d.to_⟩ := by
    refine ⟨fun k => D k ∨ (Wa.heap.size ≤ k ∧ k < w4.heap.size), ⟨fun k hk => ?_, ⟨(hrow5.keep (ten_only W5 _ _ _ _ _ _ _ _ _ _ _) (fun i hi (e : i = _) => by omega)).mono (fun k hk => .inr hk), ?_, ?_, fun e => by cases e⟩, RowD.empty _ _ _, ((HD.out.below hBT).kills).mono (fun k hk => .inl hk)⟩, ⟨hbl, (fun x hx => ?_), (fun _ hx => absurd hx List.not_mem_nil), ?_, HO.out.kills, HO.out.small, HO.out.top⟩, fun k hk => ?_, hBT⟩
    ·have h2 := ho5.size
     have h3 := (ten_only W5 (w.heap.size + 1 + 1) (.string (bs b.1)) (.int .i64 b.2) (.slice (some ⟨ga, oa, none⟩) (d.back.length + 1) c') (.slice none 0 0) (.bool false) (.slice r.A3 d.kills.length r.c3) (.int .i64 d.top) (.int .i64 d.last) (.int .i64 d.fr) (.int .i64 d.to_)).size
     rcases hk with hk | hk
     ·exact Nat.lt_of_lt_of_le (HD.out.lt k hk) hBT.size
     ·exact Nat.lt_of_lt_of_le hk.2 (Nat.le_trans h2 h3)
    ·show (d.back ++ [d.now]).length ≤ c'
     omega
    ·show c' ≤ maxLen
     omega
    ·rcases List.mem_append.1 hx with h1 | h1
     ·exact HO.out.back x h1
     ·rw [List.mem_singleton.1 h1]; exact HO.out.now
    ·have := HO.out.len
     show (d.back ++ [d.now]).length + 0 ≤ 32
     omega
    ·rcases hk with hk | hk
     ·exact .inl hk
     ·exact .inr (Nat.le_trans hszB hk.1)
   have HX := hid hm5
   have HF := hid hfin
   have HL5 := hid hlen5
   clear hbc hmc hb5 hm5 hB5 ho5 hrow5 hrow hBc hwc hlen5 hF hszA hBT hfin HD HO
   go_wp2_with fail
   refine bodyPost_ret (results_bx10 rfl _ _ ((w.heap.size + 1 + 1)) _ _ _ _ _ _ _ _ _ _ 32 rfl (ten_box HX.out _ _ _ _ _ _ _ _ _ _) Tryz.underlying32 (szS _)) rfl ?_
   refine ⟨_, _, ?_, HF.out⟩
   (try unfold dsV)
   simp only [HL5.out]
   (try rfl)
set_option maxHeartbeats 8000000 in
theorem dwrite_appT (w : World) (D : Nat → Prop) (r : DR) (d : DS) (B : Nat) (h : DsAt w D r d) (hok : d.Ok B) (b : Bi) (hbl : b.1.length ≤ 600) (hne : b ≠ d.now) (hop : d.opn = false) :
  Calls Tryz.prog 61 #[dsV r d, biV b, .bool true] w fun e w' => ∃ r' d', e = .returned (dsV r' d') ∧ DsTo w D B w' r' d' := by
 obtain ⟨W2, hW2, hB2, hs2, hb0, hb1, hb2⟩ := boxes7b w r d b
 have hcmp := cmp_ne7 hne
 obtain ⟨Wa, hWa⟩ : ∃ Wa, W2.setCell ⟨w.heap.size, 3, none⟩ (.slice none 0 0) = Wa := ⟨_, rfl⟩
 have hba : BxA Wa w.heap.size 32 [.string (bs d.now.1), .int .i64 d.now.2, .slice r.A1 d.back.length r.c1, .slice none 0 0, .bool d.opn, .slice r.A3 d.kills.length r.c3, .int .i64 d.top, .int .i64 d.last, .int .i64 d.fr, .int .i64 d.to_] := by rw [← hWa]; exact hb0.set 3 _
 have hma : BxA Wa (w.heap.size + 1 + 1) 32 dsZ := by rw [← hWa]; exact hb2.other (by omega) _
 have hxa : Bx Wa (w.heap.size + 1) 28 (.string (bs b.1)) (.int .i64 b.2) := by rw [← hWa]; exact hb1.other (by omega) _
 have hBa : Below w.heap.size w Wa := by rw [← hWa]; exact hB2.setCell (p := ⟨w.heap.size, 3, none⟩) (Nat.le_refl _) _
 have hszA : w.heap.size + 3 = Wa.heap.size := by rw [← hWa, ← hs2]; simp [World.setCell]
 have hszB : w.heap.size ≤ Wa.heap.size := by omega
 have hb0' := hb0
 unfold dsK at hb0'
 rw [hop] at hW2 hb0' hba
 have k0 := hb0'.c 0 rfl
 have k1 := hb0'.c 1 rfl
 have k2 := hb0'.c 2 rfl
 have k3 := hb0'.c 3 rfl
 have k4 := hb0'.c 4 rfl
 have k5 := hb0'.c 5 rfl
 have k6 := hb0'.c 6 rfl
 have k7 := hb0'.c 7 rfl
 have k8 := hb0'.c 8 rfl
 have k9 := hb0'.c 9 rfl
 have g3 := hb0'.free 3
 have j0 := hb1.c0
 have j1 := hb1.c1
 have a2 := hba.c 2 rfl
 have a4 := hba.c 4 rfl
 have HbW := hid hba
 have HmW := hid hma
 have HxW := hid hxa
 have HBW := hid hBa
 have HD := hid h
 have HO := hid hok
 have HRow := hid ((h.below hBa).back.row)
 have HNil := hid h.back.nil
 have hl32 := hok.len
 have HLen : Hid (d.back.length ≤ 100000) := hid (by omega)
 have HszA := hid hszA
 clear hb0 hb0' hb1 hb2 hba hma hxa hBa hB2 hs2 h hok hne hszA
 unfold dsV biV
 rw [hop]
 go_enter Tryz.func61, Tryz.ntmps61
 go_upto_region 6 with fail
 go_cut [33] from 26 (fun s33 wc => ∃ A' c' w4, s33 = .slice A' (d.back.length + 1) c' ∧ wc = w4.setCell ⟨w.heap.size, 2, none⟩ (.slice A' (d.back.length + 1) c') ∧ Hid (SnocT Wa d.back d.now A' c' w4))
 case first =>
  have qW : Wa.cell? ⟨w.heap.size, 2, none⟩ = some (.slice r.A1 d.back.length r.c1) ∧ Wa.cell? ⟨w.heap.size, 0, none⟩ = some (.string (bs d.now.1)) ∧ Wa.cell? ⟨w.heap.size, 1, none⟩ = some (.int .i64 d.now.2) := ⟨HbW.out.c 2 rfl, HbW.out.c 0 rfl, HbW.out.c 1 rfl⟩
  have qE : (Wa.alloc (.cells #[] 28)).cell? ⟨w.heap.size, 2, none⟩ = some (.slice r.A1 d.back.length r.c1) ∧ (Wa.alloc (.cells #[] 28)).cell? ⟨w.heap.size, 0, none⟩ = some (.string (bs d.now.1)) ∧ (Wa.alloc (.cells #[] 28)).cell? ⟨w.heap.size, 1, none⟩ = some (.int .i64 d.now.2) := ⟨(HbW.out.alloc (.cells #[] 28)).c 2 rfl, (HbW.out.alloc (.cells #[] 28)).c 0 rfl, (HbW.out.alloc (.cells #[] 28)).c 1 rfl⟩
  have qX : (Wa.alloc (.cells #[.string (bs d.now.1), .int .i64 d.now.2] 28)).cell? ⟨w.heap.size, 2, none⟩ = some (.slice r.A1 d.back.length r.c1) ∧ (Wa.alloc (.cells #[.string (bs d.now.1), .int .i64 d.now.2] 28)).cell? ⟨w.heap.size, 0, none⟩ = some (.string (bs d.now.1)) ∧ (Wa.alloc (.cells #[.string (bs d.now.1), .int .i64 d.now.2] 28)).cell? ⟨w.heap.size, 1, none⟩ = some (.int .i64 d.now.2) := ⟨(HbW.out.alloc (.cells #[.string (bs d.now.1), .int .i64 d.now.2] 28)).c 2 rfl, (HbW.out.alloc (.cells #[.string (bs d.now.1), .int .i64 d.now.2] 28)).c 0 rfl, (HbW.out.alloc (.cells #[.string (bs d.now.1), .int .i64 d.now.2] 28)).c 1 rfl⟩
  have qEX : ((Wa.alloc (.cells #[] 28)).alloc (.cells #[.string (bs d.now.1), .int .i64 d.now.2] 28)).cell? ⟨w.heap.size, 2, none⟩ = some (.slice r.A1 d.back.length r.c1) ∧ ((Wa.alloc (.cells #[] 28)).alloc (.cells #[.string (bs d.now.1), .int .i64 d.now.2] 28)).cell? ⟨w.heap.size, 0, none⟩ = some (.string (bs d.now.1)) ∧ ((Wa.alloc (.cells #[] 28)).alloc (.cells #[.string (bs d.now.1), .int .i64 d.now.2] 28)).cell? ⟨w.heap.size, 1, none⟩ = some (.int .i64 d.now.2) := ⟨((HbW.out.alloc (.cells #[] 28)).alloc (.cells #[.string (bs d.now.1), .int .i64 d.now.2] 28)).c 2 rfl, ((HbW.out.alloc (.cells #[] 28)).alloc (.cells #[.string (bs d.now.1), .int .i64 d.now.2] 28)).c 0 rfl, ((HbW.out.alloc (.cells #[] 28)).alloc (.cells #[.string (bs d.now.1), .int .i64 d.now.2] 28)).c 1 rfl⟩
  have qXE : ((Wa.alloc (.cells #[.string (bs d.now.1), .int .i64 d.now.2] 28)).alloc (.cells #[] 28)).cell? ⟨w.heap.size, 2, none⟩ = some (.slice r.A1 d.back.length r.c1) ∧ ((Wa.alloc (.cells #[.string (bs d.now.1), .int .i64 d.now.2] 28)).alloc (.cells #[] 28)).cell? ⟨w.heap.size, 0, none⟩ = some (.string (bs d.now.1)) ∧ ((Wa.alloc (.cells #[.string (bs d.now.1), .int .i64 d.now.2] 28)).alloc (.cells #[] 28)).cell? ⟨w.heap.size, 1, none⟩ = some (.int .i64 d.now.2) := ⟨((HbW.out.alloc (.cells #[.string (bs d.now.1), .int .i64 d.now.2] 28)).alloc (.cells #[] 28)).c 2 rfl, ((HbW.out.alloc (.cells #[.string (bs d.now.1), .int .i64 d.now.2] 28)).alloc (.cells #[] 28)).c 0 rfl, ((HbW.out.alloc (.cells #[.string (bs d.now.1), .int .i64 d.now.2] 28)).alloc (.cells #[] 28)).c 1 rfl⟩
  refine wp_region_last (S := (fun w' => w'.cell? ⟨w.heap.size, 2, none⟩ = some (.slice r.A1 d.back.length r.c1) ∧ w'.cell? ⟨w.heap.size, 0, none⟩ = some (.string (bs d.now.1)) ∧ w'.cell? ⟨w.heap.size, 1, none⟩ = some (.int .i64 d.now.2))) 9 (by kernel_rfl) qW (fun hHeld => ?_)
  refine tkL 1 ?_
  refine tkL 2 ?_
  refine tkL 4 ?_
  refine tkL 5 ?_
  refine lastAny_ready (rs := [0, 6]) (by kernel_rfl) (by simp) ?_
  refine AllReadyL.cons (o := ⟨some 26, _, _, _, _, _⟩) rfl (fun K hK => ?_) (AllReadyL.cons (o := ⟨some 32, _, _, _, _, _⟩) rfl (fun K hK => ?_) AllReadyL.nil)
  ·(rw [if_pos (by kernel_rfl)])
   go_simp
   refine hK.out _ _ qE (fun hHeld => ?_)
   clear hK K
   refine lastAny_ready (rs := [3, 6]) (by kernel_rfl) (by simp) ?_
   refine AllReadyL.cons (o := ⟨some 29, _, _, _, _, _⟩) rfl (fun K hK => ?_) (AllReadyL.cons (o := ⟨some 32, _, _, _, _, _⟩) rfl (fun K hK => ?_) AllReadyL.nil)
   ·obtain ⟨v2, w2, hr1, hb2, A', c', w4, hr2, hf⟩ := snocTA Wa.drew r.A1 r.c1 d.back d.now HRow.out HNil.out HLen.out
    rw [show Wa.drew.heap.size = Wa.heap.size from rfl] at hr1 hb2
    (try rw [show Wa.drew.heap.size = Wa.heap.size from rfl] at hr2)
    have Hr1 := hid hr1
    have Hr2 := hid hr2
    have HF := hid hf.undrew
    have hb2' : Below Wa.heap.size Wa w2 := ⟨hb2.os, hb2.tape, hb2.output, hb2.size, hb2.block⟩
    have hx2 := HbW.out.below hb2'
    have hb4 : Below Wa.heap.size Wa w4 := ⟨hf.1.os, hf.1.tape, hf.1.output, hf.1.size, hf.1.block⟩
    have hx4 := HbW.out.below hb4
    have q2 : (w2).cell? ⟨w.heap.size, 2, none⟩ = some (.slice r.A1 d.back.length r.c1) ∧ (w2).cell? ⟨w.heap.size, 0, none⟩ = some (.string (bs d.now.1)) ∧ (w2).cell? ⟨w.heap.size, 1, none⟩ = some (.int .i64 d.now.2) := ⟨hx2.c 2 rfl, hx2.c 0 rfl, hx2.c 1 rfl⟩
    have q2X : (w2.alloc (.cells #[.string (bs d.now.1), .int .i64 d.now.2] 28)).cell? ⟨w.heap.size, 2, none⟩ = some (.slice r.A1 d.back.length r.c1) ∧ (w2.alloc (.cells #[.string (bs d.now.1), .int .i64 d.now.2] 28)).cell? ⟨w.heap.size, 0, none⟩ = some (.string (bs d.now.1)) ∧ (w2.alloc (.cells #[.string (bs d.now.1), .int .i64 d.now.2] 28)).cell? ⟨w.heap.size, 1, none⟩ = some (.int .i64 d.now.2) := ⟨(hx2.alloc (.cells #[.string (bs d.now.1), .int .i64 d.now.2] 28)).c 2 rfl, (hx2.alloc (.cells #[.string (bs d.now.1), .int .i64 d.now.2] 28)).c 0 rfl, (hx2.alloc (.cells #[.string (bs d.now.1), .int .i64 d.now.2] 28)).c 1 rfl⟩
    have q4 : (w4).cell? ⟨w.heap.size, 2, none⟩ = some (.slice r.A1 d.back.length r.c1) ∧ (w4).cell? ⟨w.heap.size, 0, none⟩ = some (.string (bs d.now.1)) ∧ (w4).cell? ⟨w.heap.size, 1, none⟩ = some (.int .i64 d.now.2) := ⟨hx4.c 2 rfl, hx4.c 0 rfl, hx4.c 1 rfl⟩
    have qf4 := hx4.free 2
    have qc4 := hx4.c 2 rfl
    clear hr1 hr2 hf hb2 hb2' hb4 hx2 hx4
    refine step_append_g (by kernel_rfl) (.tmp 26) (.tmp 28) 29 rfl _ _ rfl rfl Hr1.out ?_
    refine hK.out _ _ q2 (fun hHeld => ?_)
    clear hK K
    refine rdL 6 fun K hK => ?_
    go_simp
    refine hK.out _ _ q2X (fun hHeld => ?_)
    clear hK K
    refine lastAny_ready (rs := [7]) (by kernel_rfl) (by simp) ?_
    refine AllReadyL.cons (o := ⟨some 33, _, _, _, _, _⟩) rfl (fun K hK => ?_) AllReadyL.nil
    refine step_append_g (by kernel_rfl) (.tmp 29) (.tmp 32) 29 rfl _ _ rfl rfl Hr2.out ?_
    refine hK.out _ _ q4 (fun hHeld => ?_)
    clear hK K
    refine tkL 8 ?_
    refine enL fun K hK => ?_
    go_simp
    refine hK.out _ _ ?_
    clear hK K
    clear qW qE qX qEX qXE q2 q2X Hr1 Hr2 hHeld
    go_wp2_with fail
    go_meet
    exact ⟨A', c', w4, rfl, rfl, HF⟩
   ·(rw [if_pos (by kernel_rfl)])
    go_simp
    refine hK.out _ _ qEX (fun hHeld => ?_)
    clear hK K
    obtain ⟨v2, w2, hr1, hb2, A', c', w4, hr2, hf⟩ := snocTB Wa.drew r.A1 r.c1 d.back d.now HRow.out HNil.out HLen.out
    rw [show Wa.drew.heap.size = Wa.heap.size from rfl] at hr1 hb2
    (try rw [show Wa.drew.heap.size = Wa.heap.size from rfl] at hr2)
    have Hr1 := hid hr1
    have Hr2 := hid hr2
    have HF := hid hf.undrew
    have hb2' : Below Wa.heap.size Wa w2 := ⟨hb2.os, hb2.tape, hb2.output, hb2.size, hb2.block⟩
    have hx2 := HbW.out.below hb2'
    have hb4 : Below Wa.heap.size Wa w4 := ⟨hf.1.os, hf.1.tape, hf.1.output, hf.1.size, hf.1.block⟩
    have hx4 := HbW.out.below hb4
    have q2 : (w2).cell? ⟨w.heap.size, 2, none⟩ = some (.slice r.A1 d.back.length r.c1) ∧ (w2).cell? ⟨w.heap.size, 0, none⟩ = some (.string (bs d.now.1)) ∧ (w2).cell? ⟨w.heap.size, 1, none⟩ = some (.int .i64 d.now.2) := ⟨hx2.c 2 rfl, hx2.c 0 rfl, hx2.c 1 rfl⟩
    have q2X : (w2.alloc (.cells #[.string (bs d.now.1), .int .i64 d.now.2] 28)).cell? ⟨w.heap.size, 2, none⟩ = some (.slice r.A1 d.back.length r.c1) ∧ (w2.alloc (.cells #[.string (bs d.now.1), .int .i64 d.now.2] 28)).cell? ⟨w.heap.size, 0, none⟩ = some (.string (bs d.now.1)) ∧ (w2.alloc (.cells #[.string (bs d.now.1), .int .i64 d.now.2] 28)).cell? ⟨w.heap.size, 1, none⟩ = some (.int .i64 d.now.2) := ⟨(hx2.alloc (.cells #[.string (bs d.now.1), .int .i64 d.now.2] 28)).c 2 rfl, (hx2.alloc (.cells #[.string (bs d.now.1), .int .i64 d.now.2] 28)).c 0 rfl, (hx2.alloc (.cells #[.string (bs d.now.1), .int .i64 d.now.2] 28)).c 1 rfl⟩
    have q4 : (w4).cell? ⟨w.heap.size, 2, none⟩ = some (.slice r.A1 d.back.length r.c1) ∧ (w4).cell? ⟨w.heap.size, 0, none⟩ = some (.string (bs d.now.1)) ∧ (w4).cell? ⟨w.heap.size, 1, none⟩ = some (.int .i64 d.now.2) := ⟨hx4.c 2 rfl, hx4.c 0 rfl, hx4.c 1 rfl⟩
    have qf4 := hx4.free 2
    have qc4 := hx4.c 2 rfl
    clear hr1 hr2 hf hb2 hb2' hb4 hx2 hx4
    refine lastAny_ready (rs := [3]) (by kernel_rfl) (by simp) ?_
    refine AllReadyL.cons (o := ⟨some 29, _, _, _, _, _⟩) rfl (fun K hK => ?_) AllReadyL.nil
    refine step_append_g (by kernel_rfl) (.tmp 26) (.tmp 28) 29 rfl _ _ rfl rfl Hr1.out ?_
    refine hK.out _ _ q2 (fun hHeld => ?_)
    clear hK K
    refine lastAny_ready (rs := [7]) (by kernel_rfl) (by simp) ?_
    refine AllReadyL.cons (o := ⟨some 33, _, _, _, _, _⟩) rfl (fun K hK => ?_) AllReadyL.nil
    refine step_append_g (by kernel_rfl) (.tmp 29) (.tmp 32) 29 rfl _ _ rfl rfl Hr2.out ?_
    refine hK.out _ _ q4 (fun hHeld => ?_)
    clear hK K
    refine tkL 8 ?_
    refine enL fun K hK => ?_
    go_simp
    refine hK.out _ _ ?_
    clear hK K
    clear qW qE qX qEX qXE q2 q2X Hr1 Hr2 hHeld
    go_wp2_with fail
    go_meet
    exact ⟨A', c', w4, rfl, rfl, HF⟩
  ·(rw [if_pos (by kernel_rfl)])
   go_simp
   refine hK.out _ _ qX (fun hHeld => ?_)
   clear hK K
   refine rdL 0 fun K hK => ?_
   go_simp
   refine hK.out _ _ qXE (fun hHeld => ?_)
   clear hK K
   obtain ⟨v2, w2, hr1, hb2, A', c', w4, hr2, hf⟩ := snocTC Wa.drew r.A1 r.c1 d.back d.now HRow.out HNil.out HLen.out
   rw [show Wa.drew.heap.size = Wa.heap.size from rfl] at hr1 hb2
   (try rw [show Wa.drew.heap.size = Wa.heap.size from rfl] at hr2)
   have Hr1 := hid hr1
   have Hr2 := hid hr2
   have HF := hid hf.undrew
   have hb2' : Below Wa.heap.size Wa w2 := ⟨hb2.os, hb2.tape, hb2.output, hb2.size, hb2.block⟩
   have hx2 := HbW.out.below hb2'
   have hb4 : Below Wa.heap.size Wa w4 := ⟨hf.1.os, hf.1.tape, hf.1.output, hf.1.size, hf.1.block⟩
   have hx4 := HbW.out.below hb4
   have q2 : (w2).cell? ⟨w.heap.size, 2, none⟩ = some (.slice r.A1 d.back.length r.c1) ∧ (w2).cell? ⟨w.heap.size, 0, none⟩ = some (.string (bs d.now.1)) ∧ (w2).cell? ⟨w.heap.size, 1, none⟩ = some (.int .i64 d.now.2) := ⟨hx2.c 2 rfl, hx2.c 0 rfl, hx2.c 1 rfl⟩
   have q2X : (w2.alloc (.cells #[.string (bs d.now.1), .int .i64 d.now.2] 28)).cell? ⟨w.heap.size, 2, none⟩ = some (.slice r.A1 d.back.length r.c1) ∧ (w2.alloc (.cells #[.string (bs d.now.1), .int .i64 d.now.2] 28)).cell? ⟨w.heap.size, 0, none⟩ = some (.string (bs d.now.1)) ∧ (w2.alloc (.cells #[.string (bs d.now.1), .int .i64 d.now.2] 28)).cell? ⟨w.heap.size, 1, none⟩ = some (.int .i64 d.now.2) := ⟨(hx2.alloc (.cells #[.string (bs d.now.1), .int .i64 d.now.2] 28)).c 2 rfl, (hx2.alloc (.cells #[.string (bs d.now.1), .int .i64 d.now.2] 28)).c 0 rfl, (hx2.alloc (.cells #[.string (bs d.now.1), .int .i64 d.now.2] 28)).c 1 rfl⟩
   have q4 : (w4).cell? ⟨w.heap.size, 2, none⟩ = some (.slice r.A1 d.back.length r.c1) ∧ (w4).cell? ⟨w.heap.size, 0, none⟩ = some (.string (bs d.now.1)) ∧ (w4).cell? ⟨w.heap.size, 1, none⟩ = some (.int .i64 d.now.2) := ⟨hx4.c 2 rfl, hx4.c 0 rfl, hx4.c 1 rfl⟩
   have qf4 := hx4.free 2
   have qc4 := hx4.c 2 rfl
   clear hr1 hr2 hf hb2 hb2' hb4 hx2 hx4
   refine lastAny_ready (rs := [3]) (by kernel_rfl) (by simp) ?_
   refine AllReadyL.cons (o := ⟨some 29, _, _, _, _, _⟩) rfl (fun K hK => ?_) AllReadyL.nil
   refine step_append_g (by kernel_rfl) (.tmp 26) (.tmp 28) 29 rfl _ _ rfl rfl Hr1.out ?_
   refine hK.out _ _ q2 (fun hHeld => ?_)
   clear hK K
   refine lastAny_ready (rs := [7]) (by kernel_rfl) (by simp) ?_
   refine AllReadyL.cons (o := ⟨some 33, _, _, _, _, _⟩) rfl (fun K hK => ?_) AllReadyL.nil
   refine step_append_g (by kernel_rfl) (.tmp 29) (.tmp 32) 29 rfl _ _ rfl rfl Hr2.out ?_
   refine hK.out _ _ q4 (fun hHeld => ?_)
   clear hK K
   refine tkL 8 ?_
   refine enL fun K hK => ?_
   go_simp
   refine hK.out _ _ ?_
   clear hK K
   clear qW qE qX qEX qXE q2 q2X Hr1 Hr2 hHeld
   go_wp2_with fail
   go_meet
   exact ⟨A', c', w4, rfl, rfl, HF⟩
 case rest =>
  obtain ⟨A', c', w4, rfl, hwc, hF⟩ := hcut
  obtain ⟨hb4, hrow, hcc, hcm, hcn, hfr⟩ := hF.out
  obtain ⟨ga, oa, rfl, _⟩ := id hrow (by simp)
  have hszA := HszA.out
  have hbc : BxA wc w.heap.size 32 [.string (bs d.now.1), .int .i64 d.now.2, .slice (some ⟨ga, oa, none⟩) (d.back.length + 1) c', .slice none 0 0, .bool false, .slice r.A3 d.kills.length r.c3, .int .i64 d.top, .int .i64 d.last, .int .i64 d.fr, .int .i64 d.to_] := by rw [hwc]; exact (HbW.out.below hb4).set 2 _
  have hmc : BxA wc (w.heap.size + 1 + 1) 32 dsZ := by rw [hwc]; exact (HmW.out.below hb4).other (by omega) _
  have hxc : Bx wc (w.heap.size + 1) 28 (.string (bs b.1)) (.int .i64 b.2) := by rw [hwc]; exact (HxW.out.below hb4).other (by omega) _
  have hBc : Below w.heap.size w wc := by rw [hwc]; exact (HBW.out.trans (hb4.mono HBW.out.size)).setCell (p := ⟨w.heap.size, 2, none⟩) (Nat.le_refl _) _
  have j0 := hxc.c0
  have j1 := hxc.c1
  clear hW2 hWa hcn hfr hxc HbW HmW HxW HBW HRow HNil HLen
  clear k0 k1 k2 k3 k4 k5 k6 k7 k8 k9 g3 a2 a4
  by_cases h32 : 32 < d.back.length + 1
  ·obtain ⟨W5, hW5⟩ : ∃ W5, (((wc.setCell ⟨w.heap.size, 2, none⟩ (.slice (some ⟨ga, oa + 2, none⟩) d.back.length (c' - 1))).setCell ⟨w.heap.size, 0, none⟩ (.string (bs b.1))).setCell ⟨w.heap.size, 1, none⟩ (.int .i64 b.2)).setCell ⟨w.heap.size, 4, none⟩ (.bool true) = W5 := ⟨_, rfl⟩
   have hb5 : BxA W5 w.heap.size 32 [.string (bs b.1), .int .i64 b.2, .slice (some ⟨ga, oa + 2, none⟩) d.back.length (c' - 1), .slice none 0 0, .bool true, .slice r.A3 d.kills.length r.c3, .int .i64 d.top, .int .i64 d.last, .int .i64 d.fr, .int .i64 d.to_] := by rw [← hW5]; exact (((hbc.set 2 _).set 0 _).set 1 _).set 4 _
   have hm5 : BxA W5 (w.heap.size + 1 + 1) 32 dsZ := by rw [← hW5]; exact (((hmc.other (by omega) _).other (by omega) _).other (by omega) _).other (by omega) _
   have hB5 : Below w.heap.size w W5 := by rw [← hW5]; exact (((hBc.setCell (p := ⟨w.heap.size, 2, none⟩) (Nat.le_refl _) _).setCell (p := ⟨w.heap.size, 0, none⟩) (Nat.le_refl _) _).setCell (p := ⟨w.heap.size, 1, none⟩) (Nat.le_refl _) _).setCell (p := ⟨w.heap.size, 4, none⟩) (Nat.le_refl _) _
   have ho5 : Only (fun i => i = w.heap.size) w4 W5 := by rw [← hW5, hwc]; exact (((((Only.refl (fun i => i = w.heap.size) w4).set (p := ⟨w.heap.size, 2, none⟩) (.inl rfl) _).set (p := ⟨w.heap.size, 2, none⟩) (.inl rfl) _).set (p := ⟨w.heap.size, 0, none⟩) (.inl rfl) _).set (p := ⟨w.heap.size, 1, none⟩) (.inl rfl) _).set (p := ⟨w.heap.size, 4, none⟩) (.inl rfl) _
   have k0 := hbc.c 0 rfl
   have k1 := hbc.c 1 rfl
   have k2 := hbc.c 2 rfl
   have k4 := hbc.c 4 rfl
   have u0 := hbc.free 0
   have u1 := hbc.free 1
   have u2 := hbc.free 2
   have u4 := hbc.free 4
   have c0 := hb5.c 0 rfl
   have c1 := hb5.c 1 rfl
   have c2 := hb5.c 2 rfl
   have c3 := hb5.c 3 rfl
   have c4 := hb5.c 4 rfl
   have c5 := hb5.c 5 rfl
   have c6 := hb5.c 6 rfl
   have c7 := hb5.c 7 rfl
   have c8 := hb5.c 8 rfl
   have c9 := hb5.c 9 rfl
   have e0 := hm5.c 0 rfl
   have e1 := hm5.c 1 rfl
   have e2 := hm5.c 2 rfl
   have e3 := hm5.c 3 rfl
   have e4 := hm5.c 4 rfl
   have e5 := hm5.c 5 rfl
   have e6 := hm5.c 6 rfl
   have e7 := hm5.c 7 rfl
   have e8 := hm5.c 8 rfl
   have e9 := hm5.c 9 rfl
   have f0 := hm5.free 0
   have f1 := hm5.free 1
   have f2 := hm5.free 2
   have f3 := hm5.free 3
   have f4 := hm5.free 4
   have f5 := hm5.free 5
   have f6 := hm5.free 6
   have f7 := hm5.free 7
   have f8 := hm5.free 8
   have f9 := hm5.free 9
   have hl1 : (1 : Int) ≤ ((d.back.length + 1 : Nat) : Int) := by omega
   have hgt : ((32 : Int) < ((d.back.length + 1 : Nat) : Int)) := by omega
   have hif : (if c' = 1 then some (⟨ga, oa, none⟩ : Addr) else some ⟨ga, oa + 2, none⟩) = some ⟨ga, oa + 2, none⟩ := if_neg (by omega)
   have hgt' : 32 < d.back.length + 1 := h32
   have hdd : decide ((32 : Int) < ((d.back.length + 1 : Nat) : Int)) = true := decide_eq_true hgt
   have hD5 : w.heap.size ≤ W5.heap.size := hB5.size
   have hrow5 : RowT biC W5 (fun k => (Wa.heap.size ≤ k ∧ k < w4.heap.size)) (some ⟨ga, oa + 1 * 2, none⟩) ((d.back ++ [d.now]).drop 1) := (RowT.drop (C := biC) biC_length hrow 1).keep ho5 (fun i hi (e : i = _) => by have := hszA; omega)
   have hlen5 : ((d.back ++ [d.now]).drop 1).length = d.back.length := by simp
   have hBT : Below w.heap.size w (ten W5 (w.heap.size + 1 + 1) (.string (bs b.1)) (.int .i64 b.2) (.slice (some ⟨ga, oa + 2, none⟩) d.back.length (c' - 1)) (.slice none 0 0) (.bool true) (.slice r.A3 d.kills.length r.c3) (.int .i64 d.top) (.int .i64 d.last) (.int .i64 d.fr) (.int .i64 d.to_)) := hB5.trans ((ten_only W5 _ _ _ _ _ _ _ _ _ _ _).below hB5.size (fun i (hi : i = _) => by omega))
   have hfin : DsTo w D B (ten W5 (w.heap.size + 1 + 1) (.string (bs b.1)) (.int .i64 b.2) (.slice (some ⟨ga, oa + 2, none⟩) d.back.length (c' - 1)) (.slice none 0 0) (.bool true) (.slice r.A3 d.kills.length r.c3) (.int .i64 d.top) (.int .i64 d.last) (.int .i64 d.fr) (.int .i64 d.to_)) ⟨some ⟨ga, oa + 1 * 2, none⟩, c' - 1, none, 0, r.A3, r.c3⟩ ⟨b, (d.back ++ [d.now]).drop 1, [], true, d.kills, d.top, d.last, d.fr, d.to_⟩ := by
    refine ⟨fun k => D k ∨ (Wa.heap.size ≤ k ∧ k < w4.heap.size), ⟨fun k hk => ?_, ⟨(hrow5.keep (ten_only W5 _ _ _ _ _ _ _ _ _ _ _) (fun i hi (e : i = _) => by omega)).mono (fun k hk => .inr hk), ?_, ?_, fun e => by cases e⟩, RowD.empty _ _ _, ((HD.out.below hBT).kills).mono (fun k hk => .inl hk)⟩, ⟨hbl, (fun x hx => ?_), (fun _ hx => absurd hx List.not_mem_nil), ?_, HO.out.kills, HO.out.small, HO.out.top⟩, fun k hk => ?_, hBT⟩
    ·have h2 := ho5.size
     have h3 := (ten_only W5 (w.heap.size + 1 + 1) (.string (bs b.1)) (.int .i64 b.2) (.slice (some ⟨ga, oa + 2, none⟩) d.back.length (c' - 1)) (.slice none 0 0) (.bool true) (.slice r.A3 d.kills.length r.c3) (.int .i64 d.top) (.int .i64 d.last) (.int .i64 d.fr) (.int .i64 d.to_)).size
     rcases hk with hk | hk
     ·exact Nat.lt_of_lt_of_le (HD.out.lt k hk) hBT.size
     ·exact Nat.lt_of_lt_of_le hk.2 (Nat.le_trans h2 h3)
    ·show ((d.back ++ [d.now]).drop 1).length ≤ c' - 1
     omega
    ·show c' - 1 ≤ maxLen
     omega
    ·rcases List.mem_append.1 (List.mem_of_mem_drop hx) with h1 | h1
     ·exact HO.out.back x h1
     ·rw [List.mem_singleton.1 h1]; exact HO.out.now
    ·have := HO.out.len
     show ((d.back ++ [d.now]).drop 1).length + 0 ≤ 32
     omega
    ·rcases hk with hk | hk
     ·exact .inl hk
     ·exact .inr (Nat.le_trans hszB hk.1)
   have HX := hid hm5
   have HF := hid hfin
   have HL5 := hid hlen5
   clear hbc hmc hb5 hm5 hB5 ho5 hrow5 hrow hBc hwc hlen5 hF hszA hBT hfin HD HO
   go_wp2_with fail
   refine bodyPost_ret (results_bx10 rfl _ _ ((w.heap.size + 1 + 1)) _ _ _ _ _ _ _ _ _ _ 32 rfl (ten_box HX.out _ _ _ _ _ _ _ _ _ _) Tryz.underlying32 (szS _)) rfl ?_
   refine ⟨_, _, ?_, HF.out⟩
   (try unfold dsV)
   simp only [HL5.out]
   (try rfl)
  ·obtain ⟨W5, hW5⟩ : ∃ W5, ((wc.setCell ⟨w.heap.size, 0, none⟩ (.string (bs b.1))).setCell ⟨w.heap.size, 1, none⟩ (.int .i64 b.2)).setCell ⟨w.heap.size, 4, none⟩ (.bool true) = W5 := ⟨_, rfl⟩
   have hb5 : BxA W5 w.heap.size 32 [.string (bs b.1), .int .i64 b.2, .slice (some ⟨ga, oa, none⟩) (d.back.length + 1) c', .slice none 0 0, .bool true, .slice r.A3 d.kills.length r.c3, .int .i64 d.top, .int .i64 d.last, .int .i64 d.fr, .int .i64 d.to_] := by rw [← hW5]; exact (((hbc).set 0 _).set 1 _).set 4 _
   have hm5 : BxA W5 (w.heap.size + 1 + 1) 32 dsZ := by rw [← hW5]; exact ((hmc.other (by omega) _).other (by omega) _).other (by omega) _
   have hB5 : Below w.heap.size w W5 := by rw [← hW5]; exact ((hBc.setCell (p := ⟨w.heap.size, 0, none⟩) (Nat.le_refl _) _).setCell (p := ⟨w.heap.size, 1, none⟩) (Nat.le_refl _) _).setCell (p := ⟨w.heap.size, 4, none⟩) (Nat.le_refl _) _
   have ho5 : Only (fun i => i = w.heap.size) w4 W5 := by rw [← hW5, hwc]; exact ((((Only.refl (fun i => i = w.heap.size) w4).set (p := ⟨w.heap.size, 2, none⟩) (.inl rfl) _).set (p := ⟨w.heap.size, 0, none⟩) (.inl rfl) _).set (p := ⟨w.heap.size, 1, none⟩) (.inl rfl) _).set (p := ⟨w.heap.size, 4, none⟩) (.inl rfl) _
   have k0 := hbc.c 0 rfl
   have k1 := hbc.c 1 rfl
   have k2 := hbc.c 2 rfl
   have k4 := hbc.c 4 rfl
   have u0 := hbc.free 0
   have u1 := hbc.free 1
   have u2 := hbc.free 2
   have u4 := hbc.free 4
   have c0 := hb5.c 0 rfl
   have c1 := hb5.c 1 rfl
   have c2 := hb5.c 2 rfl
   have c3 := hb5.c 3 rfl
   have c4 := hb5.c 4 rfl
   have c5 := hb5.c 5 rfl
   have c6 := hb5.c 6 rfl
   have c7 := hb5.c 7 rfl
   have c8 := hb5.c 8 rfl
   have c9 := hb5.c 9 rfl
   have e0 := hm5.c 0 rfl
   have e1 := hm5.c 1 rfl
   have e2 := hm5.c 2 rfl
   have e3 := hm5.c 3 rfl
   have e4 := hm5.c 4 rfl
   have e5 := hm5.c 5 rfl
   have e6 := hm5.c 6 rfl
   have e7 := hm5.c 7 rfl
   have e8 := hm5.c 8 rfl
   have e9 := hm5.c 9 rfl
   have f0 := hm5.free 0
   have f1 := hm5.free 1
   have f2 := hm5.free 2
   have f3 := hm5.free 3
   have f4 := hm5.free 4
   have f5 := hm5.free 5
   have f6 := hm5.free 6
   have f7 := hm5.free 7
   have f8 := hm5.free 8
   have f9 := hm5.free 9
   have hgt : ¬ ((32 : Int) < ((d.back.length + 1 : Nat) : Int)) := by omega
   have hdd : decide ((32 : Int) < ((d.back.length + 1 : Nat) : Int)) = false := decide_eq_false hgt
   have hD5 : w.heap.size ≤ W5.heap.size := hB5.size
   have hrow5 : RowT biC W5 (fun k => (Wa.heap.size ≤ k ∧ k < w4.heap.size)) (some ⟨ga, oa, none⟩) (d.back ++ [d.now]) := hrow.keep ho5 (fun i hi (e : i = _) => by have := hszA; omega)
   have hlen5 : (d.back ++ [d.now]).length = d.back.length + 1 := by simp
   have hBT : Below w.heap.size w (ten W5 (w.heap.size + 1 + 1) (.string (bs b.1)) (.int .i64 b.2) (.slice (some ⟨ga, oa, none⟩) (d.back.length + 1) c') (.slice none 0 0) (.bool true) (.slice r.A3 d.kills.length r.c3) (.int .i64 d.top) (.int .i64 d.last) (.int .i64 d.fr) (.int .i64 d.to_)) := hB5.trans ((ten_only W5 _ _ _ _ _ _ _ _ _ _ _).below hB5.size (fun i (hi : i = _) => by omega))
   have hfin : DsTo w D B (ten W5 (w.heap.size + 1 + 1) (.string (bs b.1)) (.int .i64 b.2) (.slice (some ⟨ga, oa, none⟩) (d.back.length + 1) c') (.slice none 0 0) (.bool true) (.slice r.A3 d.kills.length r.c3) (.int .i64 d.top) (.int .i64 d.last) (.int .i64 d.fr) (.int .i64 d.to_)) ⟨some ⟨ga, oa, none⟩, c', none, 0, r.A3, r.c3⟩ ⟨b, d.back ++ [d.now], [], true, d.kills, d.top, d.last, d.fr, d.to_⟩ := by
    refine ⟨fun k => D k ∨ (Wa.heap.size ≤ k ∧ k < w4.heap.size), ⟨fun k hk => ?_, ⟨(hrow5.keep (ten_only W5 _ _ _ _ _ _ _ _ _ _ _) (fun i hi (e : i = _) => by omega)).mono (fun k hk => .inr hk), ?_, ?_, fun e => by cases e⟩, RowD.empty _ _ _, ((HD.out.below hBT).kills).mono (fun k hk => .inl hk)⟩, ⟨hbl, (fun x hx => ?_), (fun _ hx => absurd hx List.not_mem_nil), ?_, HO.out.kills, HO.out.small, HO.out.top⟩, fun k hk => ?_, hBT⟩
    ·have h2 := ho5.size
     have h3 := (ten_only W5 (w.heap.size + 1 + 1) (.string (bs b.1)) (.int .i64 b.2) (.slice (some ⟨ga, oa, none⟩) (d.back.length + 1) c') (.slice none 0 0) (.bool true) (.slice r.A3 d.kills.length r.c3) (.int .i64 d.top) (.int .i64 d.last) (.int .i64 d.fr) (.int .i64 d.to_)).size
     rcases hk with hk | hk
     ·exact Nat.lt_of_lt_of_le (HD.out.lt k hk) hBT.size
     ·exact Nat.lt_of_lt_of_le hk.2 (Nat.le_trans h2 h3)
    ·show (d.back ++ [d.now]).length ≤ c'
     omega
    ·show c' ≤ maxLen
     omega
    ·rcases List.mem_append.1 hx with h1 | h1
     ·exact HO.out.back x h1
     ·rw [List.mem_singleton.1 h1]; exact HO.out.now
    ·have := HO.out.len
     show (d.back ++ [d.now]).length + 0 ≤ 32
     omega
    ·rcases hk with hk | hk
     ·exact .inl hk
     ·exact .inr (Nat.le_trans hszB hk.1)
   have HX := hid hm5
   have HF := hid hfin
   have HL5 := hid hlen5
   clear hbc hmc hb5 hm5 hB5 ho5 hrow5 hrow hBc hwc hlen5 hF hszA hBT hfin HD HO
   go_wp2_with fail
   refine bodyPost_ret (results_bx10 rfl _ _ ((w.heap.size + 1 + 1)) _ _ _ _ _ _ _ _ _ _ 32 rfl (ten_box HX.out _ _ _ _ _ _ _ _ _ _) Tryz.underlying32 (szS _)) rfl ?_
   refine ⟨_, _, ?_, HF.out⟩
   (try unfold dsV)
   simp only [HL5.out]
   (try rfl)
end
section
open Go Go.RowKit
open Go.Lib (hid)
set_option maxRecDepth 100000
theorem dwrite_calls (w : World) (D : Nat → Prop) (r : DR) (d : DS) (B : Nat) (h : DsAt w D r d) (hok : d.Ok B) (b : Bi) (hbl : b.1.length ≤ 600) (g : Bool) :
  Calls Tryz.prog 61 #[dsV r d, biV b, .bool g] w fun e w' => ∃ r' d', e = .returned (dsV r' d') ∧ DsTo w D B w' r' d' := by
 by_cases hne : b = d.now
 ·subst hne; exact dwrite_same w D r d B h hok g
 ·cases g with
  | false => exact dwrite_appF w D r d B h hok b hbl hne
  | true =>
   cases hop : d.opn with
   | true => exact dwrite_open w D r d B h hok b hbl hne hop
   | false => exact dwrite_appT w D r d B h hok b hbl hne hop
theorem ds_fin {w W w5 : World} {D : Nat → Prop} {B M : Nat} {r0 r : DR} {d0 d : DS} (h : DsAt w D r0 d0) (hB : Below w.heap.size w W) (ht : DsTo W D B w5 r d) (hM : w.heap.size ≤ M) (hM2 : M < W.heap.size) (v0 v1 v2 v3 v4 v5 v6 v7 v8 v9 : Value) : DsTo w D B (ten w5 M v0 v1 v2 v3 v4 v5 v6 v7 v8 v9) r d := by
 obtain ⟨D', a1, a2, a3, a4⟩ := ht
 have ho := ten_only w5 M v0 v1 v2 v3 v4 v5 v6 v7 v8 v9
 refine ⟨D', a1.keep ho (fun k hk (e : k = M) => ?_), a2, fun k hk => (a3 k hk).imp id (fun h => Nat.le_trans hB.size h), (hB.trans (a4.mono hB.size)).trans (ho.below (Nat.le_trans hB.size a4.size) (fun i (hi : i = M) => by omega))⟩
 rcases a3 k hk with h1 | h1
 ·have := h.lt k h1; omega
 ·omega
set_option maxHeartbeats 4000000 in
theorem dcut_calls (w : World) (D : Nat → Prop) (r : DR) (d : DS) (B : Nat) (h : DsAt w D r d) (hok : d.Ok B) (x y : Int) :
  Calls Tryz.prog 57 #[dsV r d, .int .i64 x, .int .i64 y] w fun e w' => ∃ r' d' g, e = .returned (.tuple #[dsV r' d', .string (bs g)]) ∧ g.length ≤ 600 ∧ DsTo w D B w' r' d' := by
 obtain ⟨W2, hW2, hB2, hs2, hb0, hb1⟩ := boxes7 w r d
 have k0 := hb0.c 0 rfl
 have k1 := hb0.c 1 rfl
 have k2 := hb0.c 2 rfl
 have k3 := hb0.c 3 rfl
 have k4 := hb0.c 4 rfl
 have k5 := hb0.c 5 rfl
 have k6 := hb0.c 6 rfl
 have k7 := hb0.c 7 rfl
 have k8 := hb0.c 8 rfl
 have k9 := hb0.c 9 rfl
 have HC := hid (fun W => rcutT_calls d.now.1 d.now.2 x y (by have := hok.now; omega) W)
 have hl1 : (cutR (mS d.now.1) (mA d.now.1 d.now.2) (backL (mS d.now.1) x) (backL (mS d.now.1) y)).1.length ≤ 600 ∧ (cutR (mS d.now.1) (mA d.now.1 d.now.2) (backL (mS d.now.1) x) (backL (mS d.now.1) y)).2.2.length ≤ 600 := by
  have h0 := mS_len d.now.1
  unfold cutR
  split
  ·unfold cutS goneS
   simp only [List.length_append, List.length_take, List.length_drop]
   have := backL_le (mS d.now.1) x
   have := backL_le (mS d.now.1) y
   omega
  ·exact ⟨h0, by simp⟩
 have Hl1 := hid hl1
 clear hl1
 generalize (cutR (mS d.now.1) (mA d.now.1 d.now.2) (backL (mS d.now.1) x) (backL (mS d.now.1) y)).1 = p at *
 generalize (cutR (mS d.now.1) (mA d.now.1 d.now.2) (backL (mS d.now.1) x) (backL (mS d.now.1) y)).2.1 = q at *
 generalize (cutR (mS d.now.1) (mA d.now.1 d.now.2) (backL (mS d.now.1) x) (backL (mS d.now.1) y)).2.2 = z at *
 have H0 := hid hb0
 have H1 := hid hb1
 have HB2 := hid hB2
 have HD := hid h
 have HO := hid hok
 have HlM : Hid ((w.heap.size + 1) < W2.heap.size) := hid hb1.lt
 clear hb0 hb1 hB2 hs2 h hok
 unfold dsV
 go_enter Tryz.func57, Tryz.ntmps57
 go_wp2_with fail
 refine (HC.out _).mono ?_
 rintro e w3 ⟨rfl, hb3⟩
 have hB3 := HB2.out.trans (hb3.mono HB2.out.size)
 have h03 := H0.out.below hb3
 have h13 := H1.out.below hb3
 have hB4 : Below w.heap.size w (w3.alloc (.cells #[.string (bs p), .int .i64 (q : Int)] 28)) := hB3.alloc hB3.size _
 have h04 := h03.alloc (.cells #[.string (bs p), .int .i64 (q : Int)] 28)
 have HM := hid (h13.alloc (.cells #[.string (bs p), .int .i64 (q : Int)] 28))
 have HW := hid (dwrite_calls (w3.alloc (.cells #[.string (bs p), .int .i64 (q : Int)] 28)) D r d B (HD.out.below hB4) HO.out (p, (q : Int)) Hl1.out.1 false)
 have HB4 := hid hB4
 have HlM2 : Hid ((w.heap.size + 1) < (w3.alloc (.cells #[.string (bs p), .int .i64 (q : Int)] 28)).heap.size) := hid (Nat.lt_of_lt_of_le HlM.out (by have := hb3.size; simp; omega))
 have c0 := h04.c 0 rfl
 have c1 := h04.c 1 rfl
 have c2 := h04.c 2 rfl
 have c3 := h04.c 3 rfl
 have c4 := h04.c 4 rfl
 have c5 := h04.c 5 rfl
 have c6 := h04.c 6 rfl
 have c7 := h04.c 7 rfl
 have c8 := h04.c 8 rfl
 have c9 := h04.c 9 rfl
 clear hb3 hB3 h03 h13 hB4 h04 HC
 clear k0 k1 k2 k3 k4 k5 k6 k7 k8 k9
 go_wp2_with fail
 refine HW.out.mono ?_
 rintro e w5 ⟨r', d', rfl, ht⟩
 have hm5 := HM.out.below (by obtain ⟨_, _, _, _, hb⟩ := ht; exact hb)
 have e0 := hm5.c 0 rfl
 have e1 := hm5.c 1 rfl
 have e2 := hm5.c 2 rfl
 have e3 := hm5.c 3 rfl
 have e4 := hm5.c 4 rfl
 have e5 := hm5.c 5 rfl
 have e6 := hm5.c 6 rfl
 have e7 := hm5.c 7 rfl
 have e8 := hm5.c 8 rfl
 have e9 := hm5.c 9 rfl
 have f0 := hm5.free 0
 have f1 := hm5.free 1
 have f2 := hm5.free 2
 have f3 := hm5.free 3
 have f4 := hm5.free 4
 have f5 := hm5.free 5
 have f6 := hm5.free 6
 have f7 := hm5.free 7
 have f8 := hm5.free 8
 have f9 := hm5.free 9
 have HX := hid hm5
 have HT := hid ht
 clear ht hm5
 (try unfold dsV)
 go_wp2_with fail
 refine bodyPost_ret (results_bx10' rfl _ _ ((w.heap.size + 1)) _ _ _ _ _ _ _ _ _ _ (.string (bs z)) 32 rfl rfl (ten_box HX.out _ _ _ _ _ _ _ _ _ _) Tryz.underlying32 (szS _)) rfl ?_
 exact ⟨r', d', z, rfl, Hl1.out.2, ds_fin HD.out HB4.out HT.out (Nat.le_succ _) HlM2.out _ _ _ _ _ _ _ _ _ _⟩
theorem boxes7k (w : World) (r : DR) (d : DS) (kk : Int) (t : ByteArray) : ∃ W2, ((w.alloc (.cells #[.string (bs d.now.1), .int .i64 d.now.2, .slice r.A1 d.back.length r.c1, .slice r.A2 d.forth.length r.c2, .bool d.opn, .slice r.A3 d.kills.length r.c3, .int .i64 d.top, .int .i64 d.last, .int .i64 d.fr, .int .i64 d.to_] 32)).alloc (.cells #[.int .i64 kk, .string t] 34)).alloc (.cells #[.string ⟨#[]⟩, .int .i64 0, .slice none 0 0, .slice none 0 0, .bool false, .slice none 0 0, .int .i64 0, .int .i64 0, .int .i64 0, .int .i64 0] 32) = W2 ∧ Below w.heap.size w W2 ∧ W2.heap.size = w.heap.size + 3 ∧
  BxA W2 w.heap.size 32 (dsK r d) ∧ Bx W2 (w.heap.size + 1) 34 (.int .i64 kk) (.string t) ∧ BxA W2 (w.heap.size + 1 + 1) 32 dsZ := by
 refine ⟨_, rfl, (((Below.refl _ w).alloc (Nat.le_refl _) _).alloc (by simp) _).alloc (by simp; omega) _, by simp, ((BxA.new w _ (dsK r d)).alloc _).alloc _, ?_, ?_⟩
 ·have := (Bx.new (w.alloc (.cells #[.string (bs d.now.1), .int .i64 d.now.2, .slice r.A1 d.back.length r.c1, .slice r.A2 d.forth.length r.c2, .bool d.opn, .slice r.A3 d.kills.length r.c3, .int .i64 d.top, .int .i64 d.last, .int .i64 d.fr, .int .i64 d.to_] 32)) 34 (.int .i64 kk) (.string t)).alloc (.cells #[.string ⟨#[]⟩, .int .i64 0, .slice none 0 0, .slice none 0 0, .bool false, .slice none 0 0, .int .i64 0, .int .i64 0, .int .i64 0, .int .i64 0] 32)
  rwa [World.size_alloc] at this
 ·have := BxA.new ((w.alloc (.cells #[.string (bs d.now.1), .int .i64 d.now.2, .slice r.A1 d.back.length r.c1, .slice r.A2 d.forth.length r.c2, .bool d.opn, .slice r.A3 d.kills.length r.c3, .int .i64 d.top, .int .i64 d.last, .int .i64 d.fr, .int .i64 d.to_] 32)).alloc (.cells #[.int .i64 kk, .string t] 34)) 32 dsZ
  rwa [World.size_alloc, World.size_alloc] at this
theorem rWord_callsX (x : ByteArray) (hl : x.size ≤ 137438953472) (n b : Int) (hb : b = -1 ∨ b = 1) (w : World) :
  Calls Tryz.prog 63 #[.string x, .int .i64 n, .int .i64 b] w fun e w' => ∃ k : Nat, e = .returned (.int .i64 (k : Int)) ∧ k ≤ 600 ∧ Below w.heap.size w w' := by
 have h := rWord_calls (bl x) (by unfold bl; simpa using hl) n b hb w
 rwa [bs_bl] at h
end
section
open Go Go.RowKit
open Go.Lib (hid)
set_option maxRecDepth 100000
theorem BxA.cellsAll {w : World} {N : Nat} {t : TypeId} {v0 v1 v2 v3 v4 v5 v6 v7 v8 v9 : Value} (h : BxA w N t [v0, v1, v2, v3, v4, v5, v6, v7, v8, v9]) : w.cell? ⟨N, 0, none⟩ = some (v0) ∧ w.cell? ⟨N, 1, none⟩ = some (v1) ∧ w.cell? ⟨N, 2, none⟩ = some (v2) ∧ w.cell? ⟨N, 3, none⟩ = some (v3) ∧ w.cell? ⟨N, 4, none⟩ = some (v4) ∧ w.cell? ⟨N, 5, none⟩ = some (v5) ∧ w.cell? ⟨N, 6, none⟩ = some (v6) ∧ w.cell? ⟨N, 7, none⟩ = some (v7) ∧ w.cell? ⟨N, 8, none⟩ = some (v8) ∧ w.cell? ⟨N, 9, none⟩ = some (v9) := ⟨h.c 0 rfl, h.c 1 rfl, h.c 2 rfl, h.c 3 rfl, h.c 4 rfl, h.c 5 rfl, h.c 6 rfl, h.c 7 rfl, h.c 8 rfl, h.c 9 rfl⟩
set_option maxHeartbeats 8000000 in
theorem dins_calls (w : World) (D : Nat → Prop) (r : DR) (d : DS) (B : Nat) (h : DsAt w D r d) (hok : d.Ok B) (kk : Int) (t : List UInt8) (ht : t.length ≤ 100000) :
  Calls Tryz.prog 56 #[dsV r d, .agg #[.int .i64 kk, .string (bs t)]] w fun e w' => ∃ r' d', e = .returned (dsV r' d') ∧ DsTo w D B w' r' d' := by
 obtain ⟨W2, hW2, hB2, hs2, hb0, hb1, hb2⟩ := boxes7k w r d kk (bs t)
 have k0 := hb0.c 0 rfl
 have k1 := hb0.c 1 rfl
 have k2 := hb0.c 2 rfl
 have k3 := hb0.c 3 rfl
 have k4 := hb0.c 4 rfl
 have k5 := hb0.c 5 rfl
 have k6 := hb0.c 6 rfl
 have k7 := hb0.c 7 rfl
 have k8 := hb0.c 8 rfl
 have k9 := hb0.c 9 rfl
 have y0 := hb1.c0
 have y1 := hb1.c1
 have h0 := mS_len d.now.1
 have H0w := hid hb0
 have HYw := hid hb1
 have HMw := hid hb2
 have HB2 := hid hB2
 have HD := hid h
 have HO := hid hok
 have HlMw : Hid ((w.heap.size + 1 + 1) < W2.heap.size) := hid hb2.lt
 have hnow := hok.now
 clear hb0 hb1 hb2 hB2 hs2 h hok
 by_cases h6 : (mS d.now.1).length + (plainL t).length ≤ 600
 ·have HI := hid (fun W => rinsert_ok d.now.1 t d.now.2 (by omega) (by omega) W h6)
  have HP := hid (fun W => rplain_calls t (by omega) W)
  have Hp : Hid ((insS (mS d.now.1) (mA d.now.1 d.now.2) (plainL t)).length ≤ 600) := hid (by rw [insS_length _ _ _ (mA_le _ _)]; exact h6)
  have hpl : (plainL t).length ≤ 600 := by omega
  have hpsz := bs_size (plainL t)
  have hpe : Hid (plainL t = [] ∨ plainL t ≠ []) := hid (Classical.em _)
  generalize insS (mS d.now.1) (mA d.now.1 d.now.2) (plainL t) = p at *
  generalize (insA (mS d.now.1) (mA d.now.1 d.now.2) (plainL t) : Int) = q at *
  generalize plainL t = pl at *
  unfold dsV
  go_enter Tryz.func56, Tryz.ntmps56
  go_wp2_with fail
  refine (HI.out _).mono ?_
  rintro e w3 ⟨rfl, hb3⟩
  have hB3 := HB2.out.trans (hb3.mono HB2.out.size)
  have hB4 : Below w.heap.size w (w3.alloc (.cells #[.string (bs p), .int .i64 q] 28)) := hB3.alloc hB3.size _
  have H04 := hid ((H0w.out.below hb3).alloc (.cells #[.string (bs p), .int .i64 q] 28))
  have HY4 := hid ((HYw.out.below hb3).alloc (.cells #[.string (bs p), .int .i64 q] 28))
  have HM4 := hid ((HMw.out.below hb3).alloc (.cells #[.string (bs p), .int .i64 q] 28))
  have HK4 := hid (Bx.new w3 28 (.string (bs p)) (.int .i64 q))
  have HB4 := hid hB4
  have HlM4 : Hid ((w.heap.size + 1 + 1) < (w3.alloc (.cells #[.string (bs p), .int .i64 q] 28)).heap.size) := hid (Nat.lt_of_lt_of_le HlMw.out (by have := hb3.size; simp; omega))
  have z0 := HY4.out.c0
  have z1 := HY4.out.c1
  clear hb3 hB3 hB4 HI H0w HYw HMw HB2 HlMw hW2
  clear k0 k1 k2 k3 k4 k5 k6 k7 k8 k9
  clear y0 y1
  go_wp2_with fail
  refine (HP.out _).mono ?_
  rintro e w5 ⟨rfl, hb5⟩
  have H0 := hid (H04.out.below hb5)
  have HY := hid (HY4.out.below hb5)
  have HM := hid (HM4.out.below hb5)
  have HK := hid (HK4.out.below hb5)
  have HB5 := hid (HB4.out.trans (hb5.mono HB4.out.size))
  have HlM := hid (Nat.lt_of_lt_of_le HlM4.out hb5.size)
  clear hb5 HP H04 HY4 HM4 HK4 HB4 HlM4 z0 z1
  go_wp2_with fail
  by_cases hk1 : kk = 1
  ·subst hk1
   rcases hpe.out with hpe' | hpe'
   ·subst hpe'
    refine wp_region_last (S := (fun w' => (w'.cell? ⟨w.heap.size, 0, none⟩ = some (.string (bs d.now.1)) ∧ w'.cell? ⟨w.heap.size, 1, none⟩ = some (.int .i64 d.now.2) ∧ w'.cell? ⟨w.heap.size, 2, none⟩ = some (.slice r.A1 d.back.length r.c1) ∧ w'.cell? ⟨w.heap.size, 3, none⟩ = some (.slice r.A2 d.forth.length r.c2) ∧ w'.cell? ⟨w.heap.size, 4, none⟩ = some (.bool d.opn) ∧ w'.cell? ⟨w.heap.size, 5, none⟩ = some (.slice r.A3 d.kills.length r.c3) ∧ w'.cell? ⟨w.heap.size, 6, none⟩ = some (.int .i64 d.top) ∧ w'.cell? ⟨w.heap.size, 7, none⟩ = some (.int .i64 d.last) ∧ w'.cell? ⟨w.heap.size, 8, none⟩ = some (.int .i64 d.fr) ∧ w'.cell? ⟨w.heap.size, 9, none⟩ = some (.int .i64 d.to_)) ∧ (w'.cell? ⟨w3.heap.size, 0, none⟩ = some (.string (bs p)) ∧ w'.cell? ⟨w3.heap.size, 1, none⟩ = some (.int .i64 q)) ∧ (w'.cell? ⟨(w.heap.size + 1), 0, none⟩ = some (.int .i64 1) ∧ w'.cell? ⟨(w.heap.size + 1), 1, none⟩ = some (.string (bs t))))) 18 (by kernel_rfl) ⟨H0.out.cellsAll, ⟨HK.out.c0, HK.out.c1⟩, ⟨HY.out.c0, HY.out.c1⟩⟩ (fun hHeld => ?_)
    refine tkL 0 ?_
    refine tkL 1 ?_
    refine tkL 2 ?_
    refine tkL 3 ?_
    refine tkL 4 ?_
    refine tkL 5 ?_
    refine tkL 6 ?_
    refine tkL 7 ?_
    refine tkL 8 ?_
    refine tkL 9 ?_
    refine skL 10 ?_
    refine skL 11 ?_
    refine skL 12 ?_
    refine skL 13 ?_
    refine skL 14 ?_
    refine skL 15 ?_
    refine tkL 16 ?_
    refine rdL 17 fun K hK => ?_
    go_simp
    refine (dwrite_calls _ D r d B (HD.out.below HB5.out.drew) HO.out (p, q) Hp.out _).mono ?_
    rintro e w7 ⟨r', d', rfl, ht⟩
    have hbt : Below w5.heap.size w5 w7 := by obtain ⟨_, _, _, _, hb⟩ := ht; exact ⟨hb.os, hb.tape, hb.output, hb.size, hb.block⟩
    have hm7 := HM.out.below hbt
    have e0 := hm7.c 0 rfl
    have e1 := hm7.c 1 rfl
    have e2 := hm7.c 2 rfl
    have e3 := hm7.c 3 rfl
    have e4 := hm7.c 4 rfl
    have e5 := hm7.c 5 rfl
    have e6 := hm7.c 6 rfl
    have e7 := hm7.c 7 rfl
    have e8 := hm7.c 8 rfl
    have e9 := hm7.c 9 rfl
    have f0 := hm7.free 0
    have f1 := hm7.free 1
    have f2 := hm7.free 2
    have f3 := hm7.free 3
    have f4 := hm7.free 4
    have f5 := hm7.free 5
    have f6 := hm7.free 6
    have f7 := hm7.free 7
    have f8 := hm7.free 8
    have f9 := hm7.free 9
    have HX := hid hm7
    have HT := hid ht
    have H07 := hid (H0.out.below hbt)
    have HK7 := hid (HK.out.below hbt)
    have HY7 := hid (HY.out.below hbt)
    refine hK.out _ _ ⟨H07.out.cellsAll, ⟨HK7.out.c0, HK7.out.c1⟩, ⟨HY7.out.c0, HY7.out.c1⟩⟩ (fun hHeld => ?_)
    clear hK K
    clear ht hbt hm7 hHeld
    unfold dsV
    refine enL fun K hK => ?_
    go_simp
    refine hK.out _ _ ?_
    clear hK K
    go_wp2_with fail
    refine bodyPost_ret (results_bx10 rfl _ _ ((w.heap.size + 1 + 1)) _ _ _ _ _ _ _ _ _ _ 32 rfl (ten_box HX.out _ _ _ _ _ _ _ _ _ _) Tryz.underlying32 (szS _)) rfl ?_
    exact ⟨r', d', rfl, ds_fin HD.out HB5.out.drew HT.out (by omega) HlM.out _ _ _ _ _ _ _ _ _ _⟩
   ·have hne7 : pl.isEmpty = false := by cases pl with | nil => exact absurd rfl hpe' | cons => rfl
    clear hpe hpe'
    have hcat : ¬ (9223372036854775807 < pl.length + 1) := by omega
    have hcat2 : pl.length + 1 ≤ 9223372036854775807 := by omega
    refine wp_region_last (S := (fun w' => (w'.cell? ⟨w.heap.size, 0, none⟩ = some (.string (bs d.now.1)) ∧ w'.cell? ⟨w.heap.size, 1, none⟩ = some (.int .i64 d.now.2) ∧ w'.cell? ⟨w.heap.size, 2, none⟩ = some (.slice r.A1 d.back.length r.c1) ∧ w'.cell? ⟨w.heap.size, 3, none⟩ = some (.slice r.A2 d.forth.length r.c2) ∧ w'.cell? ⟨w.heap.size, 4, none⟩ = some (.bool d.opn) ∧ w'.cell? ⟨w.heap.size, 5, none⟩ = some (.slice r.A3 d.kills.length r.c3) ∧ w'.cell? ⟨w.heap.size, 6, none⟩ = some (.int .i64 d.top) ∧ w'.cell? ⟨w.heap.size, 7, none⟩ = some (.int .i64 d.last) ∧ w'.cell? ⟨w.heap.size, 8, none⟩ = some (.int .i64 d.fr) ∧ w'.cell? ⟨w.heap.size, 9, none⟩ = some (.int .i64 d.to_)) ∧ (w'.cell? ⟨w3.heap.size, 0, none⟩ = some (.string (bs p)) ∧ w'.cell? ⟨w3.heap.size, 1, none⟩ = some (.int .i64 q)) ∧ (w'.cell? ⟨(w.heap.size + 1), 0, none⟩ = some (.int .i64 1) ∧ w'.cell? ⟨(w.heap.size + 1), 1, none⟩ = some (.string (bs t))))) 18 (by kernel_rfl) ⟨H0.out.cellsAll, ⟨HK.out.c0, HK.out.c1⟩, ⟨HY.out.c0, HY.out.c1⟩⟩ (fun hHeld => ?_)
    refine tkL 0 ?_
    refine tkL 1 ?_
    refine tkL 2 ?_
    refine tkL 3 ?_
    refine tkL 4 ?_
    refine tkL 5 ?_
    refine tkL 6 ?_
    refine tkL 7 ?_
    refine tkL 8 ?_
    refine tkL 9 ?_
    refine tkL 10 ?_
    refine tkL 11 ?_
    refine tkL 13 ?_
    refine tkL 14 ?_
    refine rdL 12 fun K hK => ?_
    go_simp
    refine (rWord_callsX _ (by rw [ByteArray.size_append, hpsz]; show pl.length + 1 ≤ _; omega) 0 1 (.inr rfl) _).mono ?_
    rintro e w6 ⟨kw, rfl, hkw, hb6⟩
    have hb6' : Below w5.heap.size w5 w6 := ⟨hb6.os, hb6.tape, hb6.output, hb6.size, hb6.block⟩
    have H06 := hid (H0.out.below hb6')
    have HK6 := hid (HK.out.below hb6')
    have HY6 := hid (HY.out.below hb6')
    have HM6 := hid (HM.out.below hb6')
    have HB6 := hid (HB5.out.trans (hb6'.mono HB5.out.size))
    have Hl6 := hid (Nat.lt_of_lt_of_le HlM.out hb6'.size)
    refine hK.out _ _ ⟨H06.out.cellsAll, ⟨HK6.out.c0, HK6.out.c1⟩, ⟨HY6.out.c0, HY6.out.c1⟩⟩ (fun hHeld => ?_)
    clear hK K
    clear hb6 hb6'
    refine tkL 15 ?_
    refine tkL 16 ?_
    refine rdL 17 fun K hK => ?_
    go_simp
    refine (dwrite_calls _ D r d B (HD.out.below HB6.out) HO.out (p, q) Hp.out _).mono ?_
    rintro e w7 ⟨r', d', rfl, ht⟩
    have hbt : Below w6.heap.size w6 w7 := by obtain ⟨_, _, _, _, hb⟩ := ht; exact ⟨hb.os, hb.tape, hb.output, hb.size, hb.block⟩
    have hm7 := HM6.out.below hbt
    have e0 := hm7.c 0 rfl
    have e1 := hm7.c 1 rfl
    have e2 := hm7.c 2 rfl
    have e3 := hm7.c 3 rfl
    have e4 := hm7.c 4 rfl
    have e5 := hm7.c 5 rfl
    have e6 := hm7.c 6 rfl
    have e7 := hm7.c 7 rfl
    have e8 := hm7.c 8 rfl
    have e9 := hm7.c 9 rfl
    have f0 := hm7.free 0
    have f1 := hm7.free 1
    have f2 := hm7.free 2
    have f3 := hm7.free 3
    have f4 := hm7.free 4
    have f5 := hm7.free 5
    have f6 := hm7.free 6
    have f7 := hm7.free 7
    have f8 := hm7.free 8
    have f9 := hm7.free 9
    have HX := hid hm7
    have HT := hid ht
    have H07 := hid (H06.out.below hbt)
    have HK7 := hid (HK6.out.below hbt)
    have HY7 := hid (HY6.out.below hbt)
    refine hK.out _ _ ⟨H07.out.cellsAll, ⟨HK7.out.c0, HK7.out.c1⟩, ⟨HY7.out.c0, HY7.out.c1⟩⟩ (fun hHeld => ?_)
    clear hK K
    clear ht hbt hm7 hHeld
    unfold dsV
    refine enL fun K hK => ?_
    go_simp
    refine hK.out _ _ ?_
    clear hK K
    go_wp2_with fail
    refine bodyPost_ret (results_bx10 rfl _ _ ((w.heap.size + 1 + 1)) _ _ _ _ _ _ _ _ _ _ 32 rfl (ten_box HX.out _ _ _ _ _ _ _ _ _ _) Tryz.underlying32 (szS _)) rfl ?_
    exact ⟨r', d', rfl, ds_fin HD.out HB6.out HT.out (by omega) Hl6.out _ _ _ _ _ _ _ _ _ _⟩
  ·have hk2 : (kk == 1) = false := beq_eq_false_iff_ne.2 hk1
   clear hpe hk1
   refine wp_region_last (S := (fun w' => (w'.cell? ⟨w.heap.size, 0, none⟩ = some (.string (bs d.now.1)) ∧ w'.cell? ⟨w.heap.size, 1, none⟩ = some (.int .i64 d.now.2) ∧ w'.cell? ⟨w.heap.size, 2, none⟩ = some (.slice r.A1 d.back.length r.c1) ∧ w'.cell? ⟨w.heap.size, 3, none⟩ = some (.slice r.A2 d.forth.length r.c2) ∧ w'.cell? ⟨w.heap.size, 4, none⟩ = some (.bool d.opn) ∧ w'.cell? ⟨w.heap.size, 5, none⟩ = some (.slice r.A3 d.kills.length r.c3) ∧ w'.cell? ⟨w.heap.size, 6, none⟩ = some (.int .i64 d.top) ∧ w'.cell? ⟨w.heap.size, 7, none⟩ = some (.int .i64 d.last) ∧ w'.cell? ⟨w.heap.size, 8, none⟩ = some (.int .i64 d.fr) ∧ w'.cell? ⟨w.heap.size, 9, none⟩ = some (.int .i64 d.to_)) ∧ (w'.cell? ⟨w3.heap.size, 0, none⟩ = some (.string (bs p)) ∧ w'.cell? ⟨w3.heap.size, 1, none⟩ = some (.int .i64 q)) ∧ (w'.cell? ⟨(w.heap.size + 1), 0, none⟩ = some (.int .i64 kk) ∧ w'.cell? ⟨(w.heap.size + 1), 1, none⟩ = some (.string (bs t))))) 18 (by kernel_rfl) ⟨H0.out.cellsAll, ⟨HK.out.c0, HK.out.c1⟩, ⟨HY.out.c0, HY.out.c1⟩⟩ (fun hHeld => ?_)
   refine tkL 0 ?_
   refine tkL 1 ?_
   refine tkL 2 ?_
   refine tkL 3 ?_
   refine tkL 4 ?_
   refine tkL 5 ?_
   refine skL 6 ?_
   refine skL 7 ?_
   refine tkL 8 ?_
   refine tkL 9 ?_
   refine skL 10 ?_
   refine skL 11 ?_
   refine skL 12 ?_
   refine skL 13 ?_
   refine skL 14 ?_
   refine skL 15 ?_
   refine tkL 16 ?_
   refine rdL 17 fun K hK => ?_
   go_simp
   refine (dwrite_calls _ D r d B (HD.out.below HB5.out.drew) HO.out (p, q) Hp.out _).mono ?_
   rintro e w7 ⟨r', d', rfl, ht⟩
   have hbt : Below w5.heap.size w5 w7 := by obtain ⟨_, _, _, _, hb⟩ := ht; exact ⟨hb.os, hb.tape, hb.output, hb.size, hb.block⟩
   have hm7 := HM.out.below hbt
   have e0 := hm7.c 0 rfl
   have e1 := hm7.c 1 rfl
   have e2 := hm7.c 2 rfl
   have e3 := hm7.c 3 rfl
   have e4 := hm7.c 4 rfl
   have e5 := hm7.c 5 rfl
   have e6 := hm7.c 6 rfl
   have e7 := hm7.c 7 rfl
   have e8 := hm7.c 8 rfl
   have e9 := hm7.c 9 rfl
   have f0 := hm7.free 0
   have f1 := hm7.free 1
   have f2 := hm7.free 2
   have f3 := hm7.free 3
   have f4 := hm7.free 4
   have f5 := hm7.free 5
   have f6 := hm7.free 6
   have f7 := hm7.free 7
   have f8 := hm7.free 8
   have f9 := hm7.free 9
   have HX := hid hm7
   have HT := hid ht
   have H07 := hid (H0.out.below hbt)
   have HK7 := hid (HK.out.below hbt)
   have HY7 := hid (HY.out.below hbt)
   refine hK.out _ _ ⟨H07.out.cellsAll, ⟨HK7.out.c0, HK7.out.c1⟩, ⟨HY7.out.c0, HY7.out.c1⟩⟩ (fun hHeld => ?_)
   clear hK K
   clear ht hbt hm7 hHeld
   unfold dsV
   refine enL fun K hK => ?_
   go_simp
   refine hK.out _ _ ?_
   clear hK K
   go_wp2_with fail
   refine bodyPost_ret (results_bx10 rfl _ _ ((w.heap.size + 1 + 1)) _ _ _ _ _ _ _ _ _ _ 32 rfl (ten_box HX.out _ _ _ _ _ _ _ _ _ _) Tryz.underlying32 (szS _)) rfl ?_
   exact ⟨r', d', rfl, ds_fin HD.out HB5.out.drew HT.out (by omega) HlM.out _ _ _ _ _ _ _ _ _ _⟩
 ·have HI := hid (fun W => rinsert_no d.now.1 t d.now.2 (by omega) (by omega) W (by omega))
  generalize mS d.now.1 = p at *
  generalize (mA d.now.1 d.now.2 : Int) = q at *
  unfold dsV
  go_enter Tryz.func56, Tryz.ntmps56
  go_wp2_with fail
  refine (HI.out _).mono ?_
  rintro e w3 ⟨rfl, hb3⟩
  have hB3 := HB2.out.trans (hb3.mono HB2.out.size)
  have hB4 : Below w.heap.size w (w3.alloc (.cells #[.string (bs p), .int .i64 q] 28)) := hB3.alloc hB3.size _
  have h04 := (H0w.out.below hb3).alloc (.cells #[.string (bs p), .int .i64 q] 28)
  have hm4 := (HMw.out.below hb3).alloc (.cells #[.string (bs p), .int .i64 q] 28)
  have c0 := h04.c 0 rfl
  have c1 := h04.c 1 rfl
  have c2 := h04.c 2 rfl
  have c3 := h04.c 3 rfl
  have c4 := h04.c 4 rfl
  have c5 := h04.c 5 rfl
  have c6 := h04.c 6 rfl
  have c7 := h04.c 7 rfl
  have c8 := h04.c 8 rfl
  have c9 := h04.c 9 rfl
  have e0 := hm4.c 0 rfl
  have e1 := hm4.c 1 rfl
  have e2 := hm4.c 2 rfl
  have e3 := hm4.c 3 rfl
  have e4 := hm4.c 4 rfl
  have e5 := hm4.c 5 rfl
  have e6 := hm4.c 6 rfl
  have e7 := hm4.c 7 rfl
  have e8 := hm4.c 8 rfl
  have e9 := hm4.c 9 rfl
  have f0 := hm4.free 0
  have f1 := hm4.free 1
  have f2 := hm4.free 2
  have f3 := hm4.free 3
  have f4 := hm4.free 4
  have f5 := hm4.free 5
  have f6 := hm4.free 6
  have f7 := hm4.free 7
  have f8 := hm4.free 8
  have f9 := hm4.free 9
  have HX := hid hm4
  have HB4 := hid hB4
  have HlM4 : Hid ((w.heap.size + 1 + 1) < (w3.alloc (.cells #[.string (bs p), .int .i64 q] 28)).heap.size) := hid (Nat.lt_of_lt_of_le HlMw.out (by have := hb3.size; simp; omega))
  clear hb3 hB3 hB4 h04 hm4 HI H0w HYw HMw HB2 HlMw hW2
  clear k0 k1 k2 k3 k4 k5 k6 k7 k8 k9
  clear y0 y1
  go_wp2_with fail
  refine bodyPost_ret (results_bx10 rfl _ _ ((w.heap.size + 1 + 1)) _ _ _ _ _ _ _ _ _ _ 32 rfl (ten_box HX.out _ _ _ _ _ _ _ _ _ _) Tryz.underlying32 (szS _)) rfl ?_
  exact ⟨r, d, rfl, ds_fin HD.out HB4.out ⟨D, HD.out.below HB4.out, HO.out, fun _ h => .inl h, Below.refl _ _⟩ (by omega) HlM4.out _ _ _ _ _ _ _ _ _ _⟩
end
end Go.Proofs.YtoaponaljkhlfaaGreatDoor
