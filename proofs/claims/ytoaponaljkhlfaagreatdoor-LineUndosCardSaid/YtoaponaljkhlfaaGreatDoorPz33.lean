/-
  Layer 7 and what it stands on, part 33 (DocB DocK DocP DocC).
-/
import Derived.Test.YtoaponaljkhlfaaGreatDoorPz32
import Derived.Deep.Cut
namespace Go.Proofs.YtoaponaljkhlfaaGreatDoor
section
open Go Go.RowKit
open Go.Lib (hid)
set_option maxRecDepth 100000
theorem RowT.at_some {α : Type} {C : α → List Value} {w : World} {R : Nat → Prop} {A : Option Addr} {ls : List α} (h : RowT C w R A ls) (hn : 0 < ls.length) {g o : Nat} (hA : A = some ⟨g, o, none⟩) : (∀ j v, (ls.flatMap C)[j]? = some v → w.cell? ⟨g, o + j, none⟩ = some v) ∧ R g := by
 obtain ⟨g', o', e, h1, _, h2⟩ := h hn
 rw [hA] at e
 injection e with e
 injection e with e1 e2
 subst e1; subst e2
 exact ⟨h2, h1⟩
set_option maxHeartbeats 8000000 in
theorem dback_calls (w : World) (D : Nat → Prop) (r : DR) (d : DS) (B : Nat) (h : DsAt w D r d) (hok : d.Ok B) :
  Calls Tryz.prog 67 #[dsV r d] w fun e w' => ∃ r' d', e = .returned (dsV r' d') ∧ DsTo w D B w' r' d' := by
 obtain ⟨W2, hW2, hB2, hs2, hb0, hb1⟩ := boxes7 w r d
 have k0 := hb0.c 0 rfl
 have k1 := hb0.c 1 rfl
 have k2 := hb0.c 2 rfl
 have k3 := hb0.c 3 rfl
 have k4 := hb0.c 4 rfl
 have k5 := hb0.c 5 rfl
 have k6 := hb0.c 6 rfl
 have k7 := hb0.c 7 rfl
 have k8 := hb0.c 8 rfl
 have k9 := hb0.c 9 rfl
 have H0w := hid hb0
 have HMw := hid hb1
 have HB2 := hid hB2
 have HD := hid h
 have HO := hid hok
 have HS2 := hid hs2
 clear hb0 hb1 hB2 hs2 h hok
 by_cases hn : d.back = []
 ·have hz : ((d.back.length : Int) == 0) = true := by rw [hn]; rfl
  have hm2 := HMw.out
  have e0 := hm2.c 0 rfl
  have e1 := hm2.c 1 rfl
  have e2 := hm2.c 2 rfl
  have e3 := hm2.c 3 rfl
  have e4 := hm2.c 4 rfl
  have e5 := hm2.c 5 rfl
  have e6 := hm2.c 6 rfl
  have e7 := hm2.c 7 rfl
  have e8 := hm2.c 8 rfl
  have e9 := hm2.c 9 rfl
  have f0 := hm2.free 0
  have f1 := hm2.free 1
  have f2 := hm2.free 2
  have f3 := hm2.free 3
  have f4 := hm2.free 4
  have f5 := hm2.free 5
  have f6 := hm2.free 6
  have f7 := hm2.free 7
  have f8 := hm2.free 8
  have f9 := hm2.free 9
  have HX := hid hm2
  clear hm2 hn
  unfold dsV
  go_enter Tryz.func67, Tryz.ntmps67
  go_wp2_with fail
  refine bodyPost_ret (results_bx10 rfl _ _ ((w.heap.size + 1)) _ _ _ _ _ _ _ _ _ _ 32 rfl (ten_box HX.out _ _ _ _ _ _ _ _ _ _) Tryz.underlying32 (szS _)) rfl ?_
  exact ⟨r, d, rfl, ds_fin HD.out HB2.out ⟨D, HD.out.below HB2.out, HO.out, fun _ h => .inl h, Below.refl _ _⟩ (by omega) (by have := HS2.out; omega) _ _ _ _ _ _ _ _ _ _⟩
 ·obtain ⟨bk0, y, hby⟩ : ∃ bk0 y, d.back = bk0 ++ [y] := ⟨_, _, (List.dropLast_concat_getLast hn).symm⟩
  have hlen : d.back.length = bk0.length + 1 := by rw [hby]; simp
  have hz : ((d.back.length : Int) == 0) = false := beq_eq_false_iff_ne.2 (by omega)
  have hl32 := HO.out.len
  have hw1 : IntKind.i64.wrap ((d.back.length : Int) - 1) = (bk0.length : Int) := by rw [IntWalk.i64_in _ (by omega)]; omega
  have hrs := (HD.out.below HB2.out).back
  obtain ⟨ga, oa, hA, _⟩ := id hrs.row (by omega)
  have HrowS := hid hrs
  have HRow := hid ((HD.out.below HB2.out).forth.row)
  have HNil := hid HD.out.forth.nil
  have HLen : Hid (d.forth.length ≤ 100000) := hid (by omega)
  have HbW := H0w
  have HA := hid hA
  have Hby := hid hby
  have Hlen := hid hlen
  clear hrs hn hA hby hlen
  unfold dsV
  go_enter Tryz.func67, Tryz.ntmps67
  go_upto_region 4 with fail
  go_cut [17] from 10 (fun s17 wc => ∃ A' c' w4, s17 = .slice A' (d.forth.length + 1) c' ∧ wc = w4.setCell ⟨w.heap.size, 3, none⟩ (.slice A' (d.forth.length + 1) c') ∧ Hid (SnocT W2 d.forth d.now A' c' w4))
  case first =>
   have qW : W2.cell? ⟨w.heap.size, 3, none⟩ = some (.slice r.A2 d.forth.length r.c2) ∧ W2.cell? ⟨w.heap.size, 0, none⟩ = some (.string (bs d.now.1)) ∧ W2.cell? ⟨w.heap.size, 1, none⟩ = some (.int .i64 d.now.2) := ⟨HbW.out.c 3 rfl, HbW.out.c 0 rfl, HbW.out.c 1 rfl⟩
   have qE : (W2.alloc (.cells #[] 28)).cell? ⟨w.heap.size, 3, none⟩ = some (.slice r.A2 d.forth.length r.c2) ∧ (W2.alloc (.cells #[] 28)).cell? ⟨w.heap.size, 0, none⟩ = some (.string (bs d.now.1)) ∧ (W2.alloc (.cells #[] 28)).cell? ⟨w.heap.size, 1, none⟩ = some (.int .i64 d.now.2) := ⟨(HbW.out.alloc (.cells #[] 28)).c 3 rfl, (HbW.out.alloc (.cells #[] 28)).c 0 rfl, (HbW.out.alloc (.cells #[] 28)).c 1 rfl⟩
   have qX : (W2.alloc (.cells #[.string (bs d.now.1), .int .i64 d.now.2] 28)).cell? ⟨w.heap.size, 3, none⟩ = some (.slice r.A2 d.forth.length r.c2) ∧ (W2.alloc (.cells #[.string (bs d.now.1), .int .i64 d.now.2] 28)).cell? ⟨w.heap.size, 0, none⟩ = some (.string (bs d.now.1)) ∧ (W2.alloc (.cells #[.string (bs d.now.1), .int .i64 d.now.2] 28)).cell? ⟨w.heap.size, 1, none⟩ = some (.int .i64 d.now.2) := ⟨(HbW.out.alloc (.cells #[.string (bs d.now.1), .int .i64 d.now.2] 28)).c 3 rfl, (HbW.out.alloc (.cells #[.string (bs d.now.1), .int .i64 d.now.2] 28)).c 0 rfl, (HbW.out.alloc (.cells #[.string (bs d.now.1), .int .i64 d.now.2] 28)).c 1 rfl⟩
   have qEX : ((W2.alloc (.cells #[] 28)).alloc (.cells #[.string (bs d.now.1), .int .i64 d.now.2] 28)).cell? ⟨w.heap.size, 3, none⟩ = some (.slice r.A2 d.forth.length r.c2) ∧ ((W2.alloc (.cells #[] 28)).alloc (.cells #[.string (bs d.now.1), .int .i64 d.now.2] 28)).cell? ⟨w.heap.size, 0, none⟩ = some (.string (bs d.now.1)) ∧ ((W2.alloc (.cells #[] 28)).alloc (.cells #[.string (bs d.now.1), .int .i64 d.now.2] 28)).cell? ⟨w.heap.size, 1, none⟩ = some (.int .i64 d.now.2) := ⟨((HbW.out.alloc (.cells #[] 28)).alloc (.cells #[.string (bs d.now.1), .int .i64 d.now.2] 28)).c 3 rfl, ((HbW.out.alloc (.cells #[] 28)).alloc (.cells #[.string (bs d.now.1), .int .i64 d.now.2] 28)).c 0 rfl, ((HbW.out.alloc (.cells #[] 28)).alloc (.cells #[.string (bs d.now.1), .int .i64 d.now.2] 28)).c 1 rfl⟩
   have qXE : ((W2.alloc (.cells #[.string (bs d.now.1), .int .i64 d.now.2] 28)).alloc (.cells #[] 28)).cell? ⟨w.heap.size, 3, none⟩ = some (.slice r.A2 d.forth.length r.c2) ∧ ((W2.alloc (.cells #[.string (bs d.now.1), .int .i64 d.now.2] 28)).alloc (.cells #[] 28)).cell? ⟨w.heap.size, 0, none⟩ = some (.string (bs d.now.1)) ∧ ((W2.alloc (.cells #[.string (bs d.now.1), .int .i64 d.now.2] 28)).alloc (.cells #[] 28)).cell? ⟨w.heap.size, 1, none⟩ = some (.int .i64 d.now.2) := ⟨((HbW.out.alloc (.cells #[.string (bs d.now.1), .int .i64 d.now.2] 28)).alloc (.cells #[] 28)).c 3 rfl, ((HbW.out.alloc (.cells #[.string (bs d.now.1), .int .i64 d.now.2] 28)).alloc (.cells #[] 28)).c 0 rfl, ((HbW.out.alloc (.cells #[.string (bs d.now.1), .int .i64 d.now.2] 28)).alloc (.cells #[] 28)).c 1 rfl⟩
   refine wp_region_last (S := (fun w' => w'.cell? ⟨w.heap.size, 3, none⟩ = some (.slice r.A2 d.forth.length r.c2) ∧ w'.cell? ⟨w.heap.size, 0, none⟩ = some (.string (bs d.now.1)) ∧ w'.cell? ⟨w.heap.size, 1, none⟩ = some (.int .i64 d.now.2))) 9 (by kernel_rfl) qW (fun hHeld => ?_)
   refine tkL 1 ?_
   refine tkL 2 ?_
   refine tkL 4 ?_
   refine tkL 5 ?_
   refine lastAny_ready (rs := [0, 6]) (by kernel_rfl) (by simp) ?_
   refine AllReadyL.cons (o := ⟨some 10, _, _, _, _, _⟩) rfl (fun K hK => ?_) (AllReadyL.cons (o := ⟨some 16, _, _, _, _, _⟩) rfl (fun K hK => ?_) AllReadyL.nil)
   ·(rw [if_pos (by kernel_rfl)])
    go_simp
    refine hK.out _ _ qE (fun hHeld => ?_)
    clear hK K
    refine lastAny_ready (rs := [3, 6]) (by kernel_rfl) (by simp) ?_
    refine AllReadyL.cons (o := ⟨some 13, _, _, _, _, _⟩) rfl (fun K hK => ?_) (AllReadyL.cons (o := ⟨some 16, _, _, _, _, _⟩) rfl (fun K hK => ?_) AllReadyL.nil)
    ·obtain ⟨v2, w2, hr1, hb2, A', c', w4, hr2, hf⟩ := snocTA W2.drew r.A2 r.c2 d.forth d.now HRow.out HNil.out HLen.out
     rw [show W2.drew.heap.size = W2.heap.size from rfl] at hr1 hb2
     (try rw [show W2.drew.heap.size = W2.heap.size from rfl] at hr2)
     have Hr1 := hid hr1
     have Hr2 := hid hr2
     have HF := hid hf.undrew
     have hb2' : Below W2.heap.size W2 w2 := ⟨hb2.os, hb2.tape, hb2.output, hb2.size, hb2.block⟩
     have hx2 := HbW.out.below hb2'
     have hb4 : Below W2.heap.size W2 w4 := ⟨hf.1.os, hf.1.tape, hf.1.output, hf.1.size, hf.1.block⟩
     have hx4 := HbW.out.below hb4
     have q2 : (w2).cell? ⟨w.heap.size, 3, none⟩ = some (.slice r.A2 d.forth.length r.c2) ∧ (w2).cell? ⟨w.heap.size, 0, none⟩ = some (.string (bs d.now.1)) ∧ (w2).cell? ⟨w.heap.size, 1, none⟩ = some (.int .i64 d.now.2) := ⟨hx2.c 3 rfl, hx2.c 0 rfl, hx2.c 1 rfl⟩
     have q2X : (w2.alloc (.cells #[.string (bs d.now.1), .int .i64 d.now.2] 28)).cell? ⟨w.heap.size, 3, none⟩ = some (.slice r.A2 d.forth.length r.c2) ∧ (w2.alloc (.cells #[.string (bs d.now.1), .int .i64 d.now.2] 28)).cell? ⟨w.heap.size, 0, none⟩ = some (.string (bs d.now.1)) ∧ (w2.alloc (.cells #[.string (bs d.now.1), .int .i64 d.now.2] 28)).cell? ⟨w.heap.size, 1, none⟩ = some (.int .i64 d.now.2) := ⟨(hx2.alloc (.cells #[.string (bs d.now.1), .int .i64 d.now.2] 28)).c 3 rfl, (hx2.alloc (.cells #[.string (bs d.now.1), .int .i64 d.now.2] 28)).c 0 rfl, (hx2.alloc (.cells #[.string (bs d.now.1), .int .i64 d.now.2] 28)).c 1 rfl⟩
     have q4 : (w4).cell? ⟨w.heap.size, 3, none⟩ = some (.slice r.A2 d.forth.length r.c2) ∧ (w4).cell? ⟨w.heap.size, 0, none⟩ = some (.string (bs d.now.1)) ∧ (w4).cell? ⟨w.heap.size, 1, none⟩ = some (.int .i64 d.now.2) := ⟨hx4.c 3 rfl, hx4.c 0 rfl, hx4.c 1 rfl⟩
     have qf4 := hx4.free 3
     have qc4 := hx4.c 3 rfl
     clear hr1 hr2 hf hb2 hb2' hb4 hx2 hx4
     refine step_append_g (by kernel_rfl) (.tmp 10) (.tmp 12) 29 rfl _ _ rfl rfl Hr1.out ?_
     refine hK.out _ _ q2 (fun hHeld => ?_)
     clear hK K
     refine rdL 6 fun K hK => ?_
     go_simp
     refine hK.out _ _ q2X (fun hHeld => ?_)
     clear hK K
     refine lastAny_ready (rs := [7]) (by kernel_rfl) (by simp) ?_
     refine AllReadyL.cons (o := ⟨some 17, _, _, _, _, _⟩) rfl (fun K hK => ?_) AllReadyL.nil
     refine step_append_g (by kernel_rfl) (.tmp 13) (.tmp 16) 29 rfl _ _ rfl rfl Hr2.out ?_
     refine hK.out _ _ q4 (fun hHeld => ?_)
     clear hK K
     refine tkL 8 ?_
     refine enL fun K hK => ?_
     go_simp
     refine hK.out _ _ ?_
     clear hK K
     clear qW qE qX qEX qXE q2 q2X Hr1 Hr2 hHeld
     go_wp2_with fail
     go_meet
     exact ⟨A', c', w4, rfl, rfl, HF⟩
    ·(rw [if_pos (by kernel_rfl)])
     go_simp
     refine hK.out _ _ qEX (fun hHeld => ?_)
     clear hK K
     obtain ⟨v2, w2, hr1, hb2, A', c', w4, hr2, hf⟩ := snocTB W2.drew r.A2 r.c2 d.forth d.now HRow.out HNil.out HLen.out
     rw [show W2.drew.heap.size = W2.heap.size from rfl] at hr1 hb2
     (try rw [show W2.drew.heap.size = W2.heap.size from rfl] at hr2)
     have Hr1 := hid hr1
     have Hr2 := hid hr2
     have HF := hid hf.undrew
     have hb2' : Below W2.heap.size W2 w2 := ⟨hb2.os, hb2.tape, hb2.output, hb2.size, hb2.block⟩
     have hx2 := HbW.out.below hb2'
     have hb4 : Below W2.heap.size W2 w4 := ⟨hf.1.os, hf.1.tape, hf.1.output, hf.1.size, hf.1.block⟩
     have hx4 := HbW.out.below hb4
     have q2 : (w2).cell? ⟨w.heap.size, 3, none⟩ = some (.slice r.A2 d.forth.length r.c2) ∧ (w2).cell? ⟨w.heap.size, 0, none⟩ = some (.string (bs d.now.1)) ∧ (w2).cell? ⟨w.heap.size, 1, none⟩ = some (.int .i64 d.now.2) := ⟨hx2.c 3 rfl, hx2.c 0 rfl, hx2.c 1 rfl⟩
     have q2X : (w2.alloc (.cells #[.string (bs d.now.1), .int .i64 d.now.2] 28)).cell? ⟨w.heap.size, 3, none⟩ = some (.slice r.A2 d.forth.length r.c2) ∧ (w2.alloc (.cells #[.string (bs d.now.1), .int .i64 d.now.2] 28)).cell? ⟨w.heap.size, 0, none⟩ = some (.string (bs d.now.1)) ∧ (w2.alloc (.cells #[.string (bs d.now.1), .int .i64 d.now.2] 28)).cell? ⟨w.heap.size, 1, none⟩ = some (.int .i64 d.now.2) := ⟨(hx2.alloc (.cells #[.string (bs d.now.1), .int .i64 d.now.2] 28)).c 3 rfl, (hx2.alloc (.cells #[.string (bs d.now.1), .int .i64 d.now.2] 28)).c 0 rfl, (hx2.alloc (.cells #[.string (bs d.now.1), .int .i64 d.now.2] 28)).c 1 rfl⟩
     have q4 : (w4).cell? ⟨w.heap.size, 3, none⟩ = some (.slice r.A2 d.forth.length r.c2) ∧ (w4).cell? ⟨w.heap.size, 0, none⟩ = some (.string (bs d.now.1)) ∧ (w4).cell? ⟨w.heap.size, 1, none⟩ = some (.int .i64 d.now.2) := ⟨hx4.c 3 rfl, hx4.c 0 rfl, hx4.c 1 rfl⟩
     have qf4 := hx4.free 3
     have qc4 := hx4.c 3 rfl
     clear hr1 hr2 hf hb2 hb2' hb4 hx2 hx4
     refine lastAny_ready (rs := [3]) (by kernel_rfl) (by simp) ?_
     refine AllReadyL.cons (o := ⟨some 13, _, _, _, _, _⟩) rfl (fun K hK => ?_) AllReadyL.nil
     refine step_append_g (by kernel_rfl) (.tmp 10) (.tmp 12) 29 rfl _ _ rfl rfl Hr1.out ?_
     refine hK.out _ _ q2 (fun hHeld => ?_)
     clear hK K
     refine lastAny_ready (rs := [7]) (by kernel_rfl) (by simp) ?_
     refine AllReadyL.cons (o := ⟨some 17, _, _, _, _, _⟩) rfl (fun K hK => ?_) AllReadyL.nil
     refine step_append_g (by kernel_rfl) (.tmp 13) (.tmp 16) 29 rfl _ _ rfl rfl Hr2.out ?_
     refine hK.out _ _ q4 (fun hHeld => ?_)
     clear hK K
     refine tkL 8 ?_
     refine enL fun K hK => ?_
     go_simp
     refine hK.out _ _ ?_
     clear hK K
     clear qW qE qX qEX qXE q2 q2X Hr1 Hr2 hHeld
     go_wp2_with fail
     go_meet
     exact ⟨A', c', w4, rfl, rfl, HF⟩
   ·(rw [if_pos (by kernel_rfl)])
    go_simp
    refine hK.out _ _ qX (fun hHeld => ?_)
    clear hK K
    refine rdL 0 fun K hK => ?_
    go_simp
    refine hK.out _ _ qXE (fun hHeld => ?_)
    clear hK K
    obtain ⟨v2, w2, hr1, hb2, A', c', w4, hr2, hf⟩ := snocTC W2.drew r.A2 r.c2 d.forth d.now HRow.out HNil.out HLen.out
    rw [show W2.drew.heap.size = W2.heap.size from rfl] at hr1 hb2
    (try rw [show W2.drew.heap.size = W2.heap.size from rfl] at hr2)
    have Hr1 := hid hr1
    have Hr2 := hid hr2
    have HF := hid hf.undrew
    have hb2' : Below W2.heap.size W2 w2 := ⟨hb2.os, hb2.tape, hb2.output, hb2.size, hb2.block⟩
    have hx2 := HbW.out.below hb2'
    have hb4 : Below W2.heap.size W2 w4 := ⟨hf.1.os, hf.1.tape, hf.1.output, hf.1.size, hf.1.block⟩
    have hx4 := HbW.out.below hb4
    have q2 : (w2).cell? ⟨w.heap.size, 3, none⟩ = some (.slice r.A2 d.forth.length r.c2) ∧ (w2).cell? ⟨w.heap.size, 0, none⟩ = some (.string (bs d.now.1)) ∧ (w2).cell? ⟨w.heap.size, 1, none⟩ = some (.int .i64 d.now.2) := ⟨hx2.c 3 rfl, hx2.c 0 rfl, hx2.c 1 rfl⟩
    have q2X : (w2.alloc (.cells #[.string (bs d.now.1), .int .i64 d.now.2] 28)).cell? ⟨w.heap.size, 3, none⟩ = some (.slice r.A2 d.forth.length r.c2) ∧ (w2.alloc (.cells #[.string (bs d.now.1), .int .i64 d.now.2] 28)).cell? ⟨w.heap.size, 0, none⟩ = some (.string (bs d.now.1)) ∧ (w2.alloc (.cells #[.string (bs d.now.1), .int .i64 d.now.2] 28)).cell? ⟨w.heap.size, 1, none⟩ = some (.int .i64 d.now.2) := ⟨(hx2.alloc (.cells #[.string (bs d.now.1), .int .i64 d.now.2] 28)).c 3 rfl, (hx2.alloc (.cells #[.string (bs d.now.1), .int .i64 d.now.2] 28)).c 0 rfl, (hx2.alloc (.cells #[.string (bs d.now.1), .int .i64 d.now.2] 28)).c 1 rfl⟩
    have q4 : (w4).cell? ⟨w.heap.size, 3, none⟩ = some (.slice r.A2 d.forth.length r.c2) ∧ (w4).cell? ⟨w.heap.size, 0, none⟩ = some (.string (bs d.now.1)) ∧ (w4).cell? ⟨w.heap.size, 1, none⟩ = some (.int .i64 d.now.2) := ⟨hx4.c 3 rfl, hx4.c 0 rfl, hx4.c 1 rfl⟩
    have qf4 := hx4.free 3
    have qc4 := hx4.c 3 rfl
    clear hr1 hr2 hf hb2 hb2' hb4 hx2 hx4
    refine lastAny_ready (rs := [3]) (by kernel_rfl) (by simp) ?_
    refine AllReadyL.cons (o := ⟨some 13, _, _, _, _, _⟩) rfl (fun K hK => ?_) AllReadyL.nil
    refine step_append_g (by kernel_rfl) (.tmp 10) (.tmp 12) 29 rfl _ _ rfl rfl Hr1.out ?_
    refine hK.out _ _ q2 (fun hHeld => ?_)
    clear hK K
    refine lastAny_ready (rs := [7]) (by kernel_rfl) (by simp) ?_
    refine AllReadyL.cons (o := ⟨some 17, _, _, _, _, _⟩) rfl (fun K hK => ?_) AllReadyL.nil
    refine step_append_g (by kernel_rfl) (.tmp 13) (.tmp 16) 29 rfl _ _ rfl rfl Hr2.out ?_
    refine hK.out _ _ q4 (fun hHeld => ?_)
    clear hK K
    refine tkL 8 ?_
    refine enL fun K hK => ?_
    go_simp
    refine hK.out _ _ ?_
    clear hK K
    clear qW qE qX qEX qXE q2 q2X Hr1 Hr2 hHeld
    go_wp2_with fail
    go_meet
    exact ⟨A', c', w4, rfl, rfl, HF⟩
  case rest =>
   obtain ⟨A', c', w4, rfl, hwc, hF⟩ := hcut
   obtain ⟨hb4, hrow, hcc, hcm, hcn, hfr⟩ := hF.out
   have hszA := HS2.out
   have hsel := HA.out
   have hbc : BxA wc w.heap.size 32 [.string (bs d.now.1), .int .i64 d.now.2, .slice (some ⟨ga, oa, none⟩) d.back.length r.c1, .slice A' (d.forth.length + 1) c', .bool d.opn, .slice r.A3 d.kills.length r.c3, .int .i64 d.top, .int .i64 d.last, .int .i64 d.fr, .int .i64 d.to_] := by rw [hwc, ← hsel]; exact (H0w.out.below hb4).set 3 _
   have hmc : BxA wc (w.heap.size + 1) 32 dsZ := by rw [hwc]; exact (HMw.out.below hb4).other (by omega) _
   have hBc : Below w.heap.size w wc := by rw [hwc]; exact (HB2.out.trans (hb4.mono HB2.out.size)).setCell (p := ⟨w.heap.size, 3, none⟩) (Nat.le_refl _) _
   have ho4 : Only (fun i => i = w.heap.size) W2 wc := by rw [hwc]; exact (Only.of_below (R := fun i => i = w.heap.size) hb4).set (p := ⟨w.heap.size, 3, none⟩) (.inl rfl) _
   have hSc := HrowS.out.keep ho4 (fun i hi (e : i = _) => by have := HD.out.lt i hi; omega)
   have hcell := (hSc.row.at_some (by rw [Hlen.out]; omega) hsel).1
   have hyy : d.back[bk0.length]? = some y := by rw [Hby.out]; simp
   have s0 : wc.cell? ⟨ga, oa + bk0.length * 2, none⟩ = some (.string (bs y.1)) := hcell _ _ (flat_get biC_length hyy (j := 0) rfl)
   have s1 : wc.cell? ⟨ga, oa + bk0.length * 2 + 1, none⟩ = some (.int .i64 y.2) := hcell _ _ (flat_get biC_length hyy (j := 1) rfl)
   obtain ⟨W5, hW5⟩ : ∃ W5, (((wc.setCell ⟨w.heap.size, 0, none⟩ (.string (bs y.1))).setCell ⟨w.heap.size, 1, none⟩ (.int .i64 y.2)).setCell ⟨w.heap.size, 2, none⟩ (.slice (some ⟨ga, oa, none⟩) bk0.length r.c1)).setCell ⟨w.heap.size, 4, none⟩ (.bool false) = W5 := ⟨_, rfl⟩
   have hb5 : BxA W5 w.heap.size 32 [.string (bs y.1), .int .i64 y.2, .slice (some ⟨ga, oa, none⟩) bk0.length r.c1, .slice A' (d.forth.length + 1) c', .bool false, .slice r.A3 d.kills.length r.c3, .int .i64 d.top, .int .i64 d.last, .int .i64 d.fr, .int .i64 d.to_] := by rw [← hW5]; exact (((hbc.set 0 _).set 1 _).set 2 _).set 4 _
   have hm5 : BxA W5 (w.heap.size + 1) 32 dsZ := by rw [← hW5]; exact (((hmc.other (by omega) _).other (by omega) _).other (by omega) _).other (by omega) _
   have ho5 : Only (fun i => i = w.heap.size) wc W5 := by rw [← hW5]; exact ((((Only.refl (fun i => i = w.heap.size) wc).set (p := ⟨w.heap.size, 0, none⟩) (.inl rfl) _).set (p := ⟨w.heap.size, 1, none⟩) (.inl rfl) _).set (p := ⟨w.heap.size, 2, none⟩) (.inl rfl) _).set (p := ⟨w.heap.size, 4, none⟩) (.inl rfl) _
   have hB5 : Below w.heap.size w W5 := hBc.trans (ho5.below hBc.size (fun i (hi : i = _) => by omega))
   have hS5 := hSc.keep ho5 (fun i hi (e : i = _) => by have := HD.out.lt i hi; omega)
   have ho45 : Only (fun i => i = w.heap.size) w4 W5 := by
    refine Only.trans ?_ ho5 (fun i h => .inl h)
    rw [hwc]
    exact (Only.refl (fun i => i = w.heap.size) w4).set (p := ⟨w.heap.size, 3, none⟩) (.inl rfl) _
   have hrow5 : RowT biC W5 (fun k => W2.heap.size ≤ k ∧ k < w4.heap.size) A' (d.forth ++ [d.now]) := hrow.keep ho45 (fun i hi (e : i = _) => by omega)
   have hBT : Below w.heap.size w (ten W5 (w.heap.size + 1) (.string (bs y.1)) (.int .i64 y.2) (.slice (some ⟨ga, oa, none⟩) bk0.length r.c1) (.slice A' (d.forth.length + 1) c') (.bool false) (.slice r.A3 d.kills.length r.c3) (.int .i64 d.top) (.int .i64 d.last) (.int .i64 d.fr) (.int .i64 d.to_)) := hB5.trans ((ten_only W5 _ _ _ _ _ _ _ _ _ _ _).below hB5.size (fun i (hi : i = _) => by omega))
   have hlenT : (d.forth ++ [d.now]).length = d.forth.length + 1 := by simp
   have hll := Hlen.out
   have hl32 := HO.out.len
   have hrS : RowT biC (ten W5 (w.heap.size + 1) (.string (bs y.1)) (.int .i64 y.2) (.slice (some ⟨ga, oa, none⟩) bk0.length r.c1) (.slice A' (d.forth.length + 1) c') (.bool false) (.slice r.A3 d.kills.length r.c3) (.int .i64 d.top) (.int .i64 d.last) (.int .i64 d.fr) (.int .i64 d.to_)) D (some ⟨ga, oa, none⟩) bk0 := by
    have hh := (hS5.keep (ten_only W5 (w.heap.size + 1) (.string (bs y.1)) (.int .i64 y.2) (.slice (some ⟨ga, oa, none⟩) bk0.length r.c1) (.slice A' (d.forth.length + 1) c') (.bool false) (.slice r.A3 d.kills.length r.c3) (.int .i64 d.top) (.int .i64 d.last) (.int .i64 d.fr) (.int .i64 d.to_)) (fun i hi (e : i = (w.heap.size + 1)) => by have := HD.out.lt i hi; omega)).row.take biC_length bk0.length
    rw [hsel, Hby.out, List.take_left] at hh
    exact hh
   have hfin : DsTo w D B (ten W5 (w.heap.size + 1) (.string (bs y.1)) (.int .i64 y.2) (.slice (some ⟨ga, oa, none⟩) bk0.length r.c1) (.slice A' (d.forth.length + 1) c') (.bool false) (.slice r.A3 d.kills.length r.c3) (.int .i64 d.top) (.int .i64 d.last) (.int .i64 d.fr) (.int .i64 d.to_)) ⟨some ⟨ga, oa, none⟩, r.c1, A', c', r.A3, r.c3⟩ ⟨y, bk0, d.forth ++ [d.now], false, d.kills, d.top, d.last, d.fr, d.to_⟩ := by
    refine ⟨fun k => D k ∨ (W2.heap.size ≤ k ∧ k < w4.heap.size), ⟨fun k hk => ?_, ⟨hrS.mono (fun i hi => .inl hi), (by show bk0.length ≤ r.c1; have := HrowS.out.le; omega), HrowS.out.max, fun e => by cases e⟩, ⟨(hrow5.keep (ten_only W5 _ _ _ _ _ _ _ _ _ _ _) (fun i hi (e : i = _) => by omega)).mono (fun i hi => .inr hi), (by show (d.forth ++ [d.now]).length ≤ c'; simp; omega), hcm, hcn⟩, (HD.out.below hBT).kills.mono (fun k hk => .inl hk)⟩, ⟨?_, fun x hx => HO.out.back x (by rw [Hby.out]; exact List.mem_append_left _ hx), fun x hx => by
   rcases List.mem_append.1 hx with h1 | h1
   ·exact HO.out.forth x h1
   ·rw [List.mem_singleton.1 h1]; exact HO.out.now, ?_, HO.out.kills, HO.out.small, HO.out.top⟩, fun k hk => ?_, hBT⟩
    ·have h2 := ho45.size
     have h3 := (ten_only W5 (w.heap.size + 1) (.string (bs y.1)) (.int .i64 y.2) (.slice (some ⟨ga, oa, none⟩) bk0.length r.c1) (.slice A' (d.forth.length + 1) c') (.bool false) (.slice r.A3 d.kills.length r.c3) (.int .i64 d.top) (.int .i64 d.last) (.int .i64 d.fr) (.int .i64 d.to_)).size
     rcases hk with hk | hk
     ·exact Nat.lt_of_lt_of_le (HD.out.lt k hk) hBT.size
     ·exact Nat.lt_of_lt_of_le hk.2 (Nat.le_trans h2 h3)
    ·exact HO.out.back y (by rw [Hby.out]; simp)
    ·show bk0.length + (d.forth ++ [d.now]).length ≤ 32
     omega
    ·rcases hk with hk | hk
     ·exact .inl hk
     ·exact .inr (by omega)
   have k0 := hbc.c 0 rfl
   have k1 := hbc.c 1 rfl
   have k2 := hbc.c 2 rfl
   have k3 := hbc.c 3 rfl
   have k4 := hbc.c 4 rfl
   have k5 := hbc.c 5 rfl
   have k6 := hbc.c 6 rfl
   have k7 := hbc.c 7 rfl
   have k8 := hbc.c 8 rfl
   have k9 := hbc.c 9 rfl
   have u0 := hbc.free 0
   have u1 := hbc.free 1
   have u2 := hbc.free 2
   have u4 := hbc.free 4
   have c0 := hb5.c 0 rfl
   have c1 := hb5.c 1 rfl
   have c2 := hb5.c 2 rfl
   have c3 := hb5.c 3 rfl
   have c4 := hb5.c 4 rfl
   have c5 := hb5.c 5 rfl
   have c6 := hb5.c 6 rfl
   have c7 := hb5.c 7 rfl
   have c8 := hb5.c 8 rfl
   have c9 := hb5.c 9 rfl
   have e0 := hm5.c 0 rfl
   have e1 := hm5.c 1 rfl
   have e2 := hm5.c 2 rfl
   have e3 := hm5.c 3 rfl
   have e4 := hm5.c 4 rfl
   have e5 := hm5.c 5 rfl
   have e6 := hm5.c 6 rfl
   have e7 := hm5.c 7 rfl
   have e8 := hm5.c 8 rfl
   have e9 := hm5.c 9 rfl
   have f0 := hm5.free 0
   have f1 := hm5.free 1
   have f2 := hm5.free 2
   have f3 := hm5.free 3
   have f4 := hm5.free 4
   have f5 := hm5.free 5
   have f6 := hm5.free 6
   have f7 := hm5.free 7
   have f8 := hm5.free 8
   have f9 := hm5.free 9
   have hi1 : bk0.length < d.back.length := by omega
   have hi2 : (bk0.length : Int) < (d.back.length : Int) := by omega
   have hi3 : (0 : Int) ≤ (bk0.length : Int) := by omega
   have hi4 : bk0.length ≤ r.c1 := by have := HrowS.out.le; omega
   have hi5 : (bk0.length : Int) ≤ (r.c1 : Int) := by omega
   have HX := hid hm5
   have HF := hid hfin
   have HLT := hid hlenT
   clear hbc hmc hBc ho4 hSc hcell hyy hb5 hm5 ho5 hB5 hS5 ho45 hrow5 hBT hfin hrS hF hrow hcn hfr hb4 hwc hszA hsel hll hlenT hl32
   go_wp2_with fail
   refine bodyPost_ret (results_bx10 rfl _ _ ((w.heap.size + 1)) _ _ _ _ _ _ _ _ _ _ 32 rfl (ten_box HX.out _ _ _ _ _ _ _ _ _ _) Tryz.underlying32 (szS _)) rfl ?_
   refine ⟨_, _, ?_, HF.out⟩
   (try unfold dsV)
   simp only [HLT.out]
   (try rfl)
set_option maxHeartbeats 8000000 in
theorem dforth_calls (w : World) (D : Nat → Prop) (r : DR) (d : DS) (B : Nat) (h : DsAt w D r d) (hok : d.Ok B) :
  Calls Tryz.prog 68 #[dsV r d] w fun e w' => ∃ r' d', e = .returned (dsV r' d') ∧ DsTo w D B w' r' d' := by
 obtain ⟨W2, hW2, hB2, hs2, hb0, hb1⟩ := boxes7 w r d
 have k0 := hb0.c 0 rfl
 have k1 := hb0.c 1 rfl
 have k2 := hb0.c 2 rfl
 have k3 := hb0.c 3 rfl
 have k4 := hb0.c 4 rfl
 have k5 := hb0.c 5 rfl
 have k6 := hb0.c 6 rfl
 have k7 := hb0.c 7 rfl
 have k8 := hb0.c 8 rfl
 have k9 := hb0.c 9 rfl
 have H0w := hid hb0
 have HMw := hid hb1
 have HB2 := hid hB2
 have HD := hid h
 have HO := hid hok
 have HS2 := hid hs2
 clear hb0 hb1 hB2 hs2 h hok
 by_cases hn : d.forth = []
 ·have hz : ((d.forth.length : Int) == 0) = true := by rw [hn]; rfl
  have hm2 := HMw.out
  have e0 := hm2.c 0 rfl
  have e1 := hm2.c 1 rfl
  have e2 := hm2.c 2 rfl
  have e3 := hm2.c 3 rfl
  have e4 := hm2.c 4 rfl
  have e5 := hm2.c 5 rfl
  have e6 := hm2.c 6 rfl
  have e7 := hm2.c 7 rfl
  have e8 := hm2.c 8 rfl
  have e9 := hm2.c 9 rfl
  have f0 := hm2.free 0
  have f1 := hm2.free 1
  have f2 := hm2.free 2
  have f3 := hm2.free 3
  have f4 := hm2.free 4
  have f5 := hm2.free 5
  have f6 := hm2.free 6
  have f7 := hm2.free 7
  have f8 := hm2.free 8
  have f9 := hm2.free 9
  have HX := hid hm2
  clear hm2 hn
  unfold dsV
  go_enter Tryz.func68, Tryz.ntmps68
  go_wp2_with fail
  refine bodyPost_ret (results_bx10 rfl _ _ ((w.heap.size + 1)) _ _ _ _ _ _ _ _ _ _ 32 rfl (ten_box HX.out _ _ _ _ _ _ _ _ _ _) Tryz.underlying32 (szS _)) rfl ?_
  exact ⟨r, d, rfl, ds_fin HD.out HB2.out ⟨D, HD.out.below HB2.out, HO.out, fun _ h => .inl h, Below.refl _ _⟩ (by omega) (by have := HS2.out; omega) _ _ _ _ _ _ _ _ _ _⟩
 ·obtain ⟨bk0, y, hby⟩ : ∃ bk0 y, d.forth = bk0 ++ [y] := ⟨_, _, (List.dropLast_concat_getLast hn).symm⟩
  have hlen : d.forth.length = bk0.length + 1 := by rw [hby]; simp
  have hz : ((d.forth.length : Int) == 0) = false := beq_eq_false_iff_ne.2 (by omega)
  have hl32 := HO.out.len
  have hw1 : IntKind.i64.wrap ((d.forth.length : Int) - 1) = (bk0.length : Int) := by rw [IntWalk.i64_in _ (by omega)]; omega
  have hrs := (HD.out.below HB2.out).forth
  obtain ⟨ga, oa, hA, _⟩ := id hrs.row (by omega)
  have HrowS := hid hrs
  have HRow := hid ((HD.out.below HB2.out).back.row)
  have HNil := hid HD.out.back.nil
  have HLen : Hid (d.back.length ≤ 100000) := hid (by omega)
  have HbW := H0w
  have HA := hid hA
  have Hby := hid hby
  have Hlen := hid hlen
  clear hrs hn hA hby hlen
  unfold dsV
  go_enter Tryz.func68, Tryz.ntmps68
  go_upto_region 4 with fail
  go_cut [17] from 10 (fun s17 wc => ∃ A' c' w4, s17 = .slice A' (d.back.length + 1) c' ∧ wc = w4.setCell ⟨w.heap.size, 2, none⟩ (.slice A' (d.back.length + 1) c') ∧ Hid (SnocT W2 d.back d.now A' c' w4))
  case first =>
   have qW : W2.cell? ⟨w.heap.size, 2, none⟩ = some (.slice r.A1 d.back.length r.c1) ∧ W2.cell? ⟨w.heap.size, 0, none⟩ = some (.string (bs d.now.1)) ∧ W2.cell? ⟨w.heap.size, 1, none⟩ = some (.int .i64 d.now.2) := ⟨HbW.out.c 2 rfl, HbW.out.c 0 rfl, HbW.out.c 1 rfl⟩
   have qE : (W2.alloc (.cells #[] 28)).cell? ⟨w.heap.size, 2, none⟩ = some (.slice r.A1 d.back.length r.c1) ∧ (W2.alloc (.cells #[] 28)).cell? ⟨w.heap.size, 0, none⟩ = some (.string (bs d.now.1)) ∧ (W2.alloc (.cells #[] 28)).cell? ⟨w.heap.size, 1, none⟩ = some (.int .i64 d.now.2) := ⟨(HbW.out.alloc (.cells #[] 28)).c 2 rfl, (HbW.out.alloc (.cells #[] 28)).c 0 rfl, (HbW.out.alloc (.cells #[] 28)).c 1 rfl⟩
   have qX : (W2.alloc (.cells #[.string (bs d.now.1), .int .i64 d.now.2] 28)).cell? ⟨w.heap.size, 2, none⟩ = some (.slice r.A1 d.back.length r.c1) ∧ (W2.alloc (.cells #[.string (bs d.now.1), .int .i64 d.now.2] 28)).cell? ⟨w.heap.size, 0, none⟩ = some (.string (bs d.now.1)) ∧ (W2.alloc (.cells #[.string (bs d.now.1), .int .i64 d.now.2] 28)).cell? ⟨w.heap.size, 1, none⟩ = some (.int .i64 d.now.2) := ⟨(HbW.out.alloc (.cells #[.string (bs d.now.1), .int .i64 d.now.2] 28)).c 2 rfl, (HbW.out.alloc (.cells #[.string (bs d.now.1), .int .i64 d.now.2] 28)).c 0 rfl, (HbW.out.alloc (.cells #[.string (bs d.now.1), .int .i64 d.now.2] 28)).c 1 rfl⟩
   have qEX : ((W2.alloc (.cells #[] 28)).alloc (.cells #[.string (bs d.now.1), .int .i64 d.now.2] 28)).cell? ⟨w.heap.size, 2, none⟩ = some (.slice r.A1 d.back.length r.c1) ∧ ((W2.alloc (.cells #[] 28)).alloc (.cells #[.string (bs d.now.1), .int .i64 d.now.2] 28)).cell? ⟨w.heap.size, 0, none⟩ = some (.string (bs d.now.1)) ∧ ((W2.alloc (.cells #[] 28)).alloc (.cells #[.string (bs d.now.1), .int .i64 d.now.2] 28)).cell? ⟨w.heap.size, 1, none⟩ = some (.int .i64 d.now.2) := ⟨((HbW.out.alloc (.cells #[] 28)).alloc (.cells #[.string (bs d.now.1), .int .i64 d.now.2] 28)).c 2 rfl, ((HbW.out.alloc (.cells #[] 28)).alloc (.cells #[.string (bs d.now.1), .int .i64 d.now.2] 28)).c 0 rfl, ((HbW.out.alloc (.cells #[] 28)).alloc (.cells #[.string (bs d.now.1), .int .i64 d.now.2] 28)).c 1 rfl⟩
   have qXE : ((W2.alloc (.cells #[.string (bs d.now.1), .int .i64 d.now.2] 28)).alloc (.cells #[] 28)).cell? ⟨w.heap.size, 2, none⟩ = some (.slice r.A1 d.back.length r.c1) ∧ ((W2.alloc (.cells #[.string (bs d.now.1), .int .i64 d.now.2] 28)).alloc (.cells #[] 28)).cell? ⟨w.heap.size, 0, none⟩ = some (.string (bs d.now.1)) ∧ ((W2.alloc (.cells #[.string (bs d.now.1), .int .i64 d.now.2] 28)).alloc (.cells #[] 28)).cell? ⟨w.heap.size, 1, none⟩ = some (.int .i64 d.now.2) := ⟨((HbW.out.alloc (.cells #[.string (bs d.now.1), .int .i64 d.now.2] 28)).alloc (.cells #[] 28)).c 2 rfl, ((HbW.out.alloc (.cells #[.string (bs d.now.1), .int .i64 d.now.2] 28)).alloc (.cells #[] 28)).c 0 rfl, ((HbW.out.alloc (.cells #[.string (bs d.now.1), .int .i64 d.now.2] 28)).alloc (.cells #[] 28)).c 1 rfl⟩
   refine wp_region_last (S := (fun w' => w'.cell? ⟨w.heap.size, 2, none⟩ = some (.slice r.A1 d.back.length r.c1) ∧ w'.cell? ⟨w.heap.size, 0, none⟩ = some (.string (bs d.now.1)) ∧ w'.cell? ⟨w.heap.size, 1, none⟩ = some (.int .i64 d.now.2))) 9 (by kernel_rfl) qW (fun hHeld => ?_)
   refine tkL 1 ?_
   refine tkL 2 ?_
   refine tkL 4 ?_
   refine tkL 5 ?_
   refine lastAny_ready (rs := [0, 6]) (by kernel_rfl) (by simp) ?_
   refine AllReadyL.cons (o := ⟨some 10, _, _, _, _, _⟩) rfl (fun K hK => ?_) (AllReadyL.cons (o := ⟨some 16, _, _, _, _, _⟩) rfl (fun K hK => ?_) AllReadyL.nil)
   ·(rw [if_pos (by kernel_rfl)])
    go_simp
    refine hK.out _ _ qE (fun hHeld => ?_)
    clear hK K
    refine lastAny_ready (rs := [3, 6]) (by kernel_rfl) (by simp) ?_
    refine AllReadyL.cons (o := ⟨some 13, _, _, _, _, _⟩) rfl (fun K hK => ?_) (AllReadyL.cons (o := ⟨some 16, _, _, _, _, _⟩) rfl (fun K hK => ?_) AllReadyL.nil)
    ·obtain ⟨v2, w2, hr1, hb2, A', c', w4, hr2, hf⟩ := snocTA W2.drew r.A1 r.c1 d.back d.now HRow.out HNil.out HLen.out
     rw [show W2.drew.heap.size = W2.heap.size from rfl] at hr1 hb2
     (try rw [show W2.drew.heap.size = W2.heap.size from rfl] at hr2)
     have Hr1 := hid hr1
     have Hr2 := hid hr2
     have HF := hid hf.undrew
     have hb2' : Below W2.heap.size W2 w2 := ⟨hb2.os, hb2.tape, hb2.output, hb2.size, hb2.block⟩
     have hx2 := HbW.out.below hb2'
     have hb4 : Below W2.heap.size W2 w4 := ⟨hf.1.os, hf.1.tape, hf.1.output, hf.1.size, hf.1.block⟩
     have hx4 := HbW.out.below hb4
     have q2 : (w2).cell? ⟨w.heap.size, 2, none⟩ = some (.slice r.A1 d.back.length r.c1) ∧ (w2).cell? ⟨w.heap.size, 0, none⟩ = some (.string (bs d.now.1)) ∧ (w2).cell? ⟨w.heap.size, 1, none⟩ = some (.int .i64 d.now.2) := ⟨hx2.c 2 rfl, hx2.c 0 rfl, hx2.c 1 rfl⟩
     have q2X : (w2.alloc (.cells #[.string (bs d.now.1), .int .i64 d.now.2] 28)).cell? ⟨w.heap.size, 2, none⟩ = some (.slice r.A1 d.back.length r.c1) ∧ (w2.alloc (.cells #[.string (bs d.now.1), .int .i64 d.now.2] 28)).cell? ⟨w.heap.size, 0, none⟩ = some (.string (bs d.now.1)) ∧ (w2.alloc (.cells #[.string (bs d.now.1), .int .i64 d.now.2] 28)).cell? ⟨w.heap.size, 1, none⟩ = some (.int .i64 d.now.2) := ⟨(hx2.alloc (.cells #[.string (bs d.now.1), .int .i64 d.now.2] 28)).c 2 rfl, (hx2.alloc (.cells #[.string (bs d.now.1), .int .i64 d.now.2] 28)).c 0 rfl, (hx2.alloc (.cells #[.string (bs d.now.1), .int .i64 d.now.2] 28)).c 1 rfl⟩
     have q4 : (w4).cell? ⟨w.heap.size, 2, none⟩ = some (.slice r.A1 d.back.length r.c1) ∧ (w4).cell? ⟨w.heap.size, 0, none⟩ = some (.string (bs d.now.1)) ∧ (w4).cell? ⟨w.heap.size, 1, none⟩ = some (.int .i64 d.now.2) := ⟨hx4.c 2 rfl, hx4.c 0 rfl, hx4.c 1 rfl⟩
     have qf4 := hx4.free 2
     have qc4 := hx4.c 2 rfl
     clear hr1 hr2 hf hb2 hb2' hb4 hx2 hx4
     refine step_append_g (by kernel_rfl) (.tmp 10) (.tmp 12) 29 rfl _ _ rfl rfl Hr1.out ?_
     refine hK.out _ _ q2 (fun hHeld => ?_)
     clear hK K
     refine rdL 6 fun K hK => ?_
     go_simp
     refine hK.out _ _ q2X (fun hHeld => ?_)
     clear hK K
     refine lastAny_ready (rs := [7]) (by kernel_rfl) (by simp) ?_
     refine AllReadyL.cons (o := ⟨some 17, _, _, _, _, _⟩) rfl (fun K hK => ?_) AllReadyL.nil
     refine step_append_g (by kernel_rfl) (.tmp 13) (.tmp 16) 29 rfl _ _ rfl rfl Hr2.out ?_
     refine hK.out _ _ q4 (fun hHeld => ?_)
     clear hK K
     refine tkL 8 ?_
     refine enL fun K hK => ?_
     go_simp
     refine hK.out _ _ ?_
     clear hK K
     clear qW qE qX qEX qXE q2 q2X Hr1 Hr2 hHeld
     go_wp2_with fail
     go_meet
     exact ⟨A', c', w4, rfl, rfl, HF⟩
    ·(rw [if_pos (by kernel_rfl)])
     go_simp
     refine hK.out _ _ qEX (fun hHeld => ?_)
     clear hK K
     obtain ⟨v2, w2, hr1, hb2, A', c', w4, hr2, hf⟩ := snocTB W2.drew r.A1 r.c1 d.back d.now HRow.out HNil.out HLen.out
     rw [show W2.drew.heap.size = W2.heap.size from rfl] at hr1 hb2
     (try rw [show W2.drew.heap.size = W2.heap.size from rfl] at hr2)
     have Hr1 := hid hr1
     have Hr2 := hid hr2
     have HF := hid hf.undrew
     have hb2' : Below W2.heap.size W2 w2 := ⟨hb2.os, hb2.tape, hb2.output, hb2.size, hb2.block⟩
     have hx2 := HbW.out.below hb2'
     have hb4 : Below W2.heap.size W2 w4 := ⟨hf.1.os, hf.1.tape, hf.1.output, hf.1.size, hf.1.block⟩
     have hx4 := HbW.out.below hb4
     have q2 : (w2).cell? ⟨w.heap.size, 2, none⟩ = some (.slice r.A1 d.back.length r.c1) ∧ (w2).cell? ⟨w.heap.size, 0, none⟩ = some (.string (bs d.now.1)) ∧ (w2).cell? ⟨w.heap.size, 1, none⟩ = some (.int .i64 d.now.2) := ⟨hx2.c 2 rfl, hx2.c 0 rfl, hx2.c 1 rfl⟩
     have q2X : (w2.alloc (.cells #[.string (bs d.now.1), .int .i64 d.now.2] 28)).cell? ⟨w.heap.size, 2, none⟩ = some (.slice r.A1 d.back.length r.c1) ∧ (w2.alloc (.cells #[.string (bs d.now.1), .int .i64 d.now.2] 28)).cell? ⟨w.heap.size, 0, none⟩ = some (.string (bs d.now.1)) ∧ (w2.alloc (.cells #[.string (bs d.now.1), .int .i64 d.now.2] 28)).cell? ⟨w.heap.size, 1, none⟩ = some (.int .i64 d.now.2) := ⟨(hx2.alloc (.cells #[.string (bs d.now.1), .int .i64 d.now.2] 28)).c 2 rfl, (hx2.alloc (.cells #[.string (bs d.now.1), .int .i64 d.now.2] 28)).c 0 rfl, (hx2.alloc (.cells #[.string (bs d.now.1), .int .i64 d.now.2] 28)).c 1 rfl⟩
     have q4 : (w4).cell? ⟨w.heap.size, 2, none⟩ = some (.slice r.A1 d.back.length r.c1) ∧ (w4).cell? ⟨w.heap.size, 0, none⟩ = some (.string (bs d.now.1)) ∧ (w4).cell? ⟨w.heap.size, 1, none⟩ = some (.int .i64 d.now.2) := ⟨hx4.c 2 rfl, hx4.c 0 rfl, hx4.c 1 rfl⟩
     have qf4 := hx4.free 2
     have qc4 := hx4.c 2 rfl
     clear hr1 hr2 hf hb2 hb2' hb4 hx2 hx4
     refine lastAny_ready (rs := [3]) (by kernel_rfl) (by simp) ?_
     refine AllReadyL.cons (o := ⟨some 13, _, _, _, _, _⟩) rfl (fun K hK => ?_) AllReadyL.nil
     refine step_append_g (by kernel_rfl) (.tmp 10) (.tmp 12) 29 rfl _ _ rfl rfl Hr1.out ?_
     refine hK.out _ _ q2 (fun hHeld => ?_)
     clear hK K
     refine lastAny_ready (rs := [7]) (by kernel_rfl) (by simp) ?_
     refine AllReadyL.cons (o := ⟨some 17, _, _, _, _, _⟩) rfl (fun K hK => ?_) AllReadyL.nil
     refine step_append_g (by kernel_rfl) (.tmp 13) (.tmp 16) 29 rfl _ _ rfl rfl Hr2.out ?_
     refine hK.out _ _ q4 (fun hHeld => ?_)
     clear hK K
     refine tkL 8 ?_
     refine enL fun K hK => ?_
     go_simp
     refine hK.out _ _ ?_
     clear hK K
     clear qW qE qX qEX qXE q2 q2X Hr1 Hr2 hHeld
     go_wp2_with fail
     go_meet
     exact ⟨A', c', w4, rfl, rfl, HF⟩
   ·(rw [if_pos (by kernel_rfl)])
    go_simp
    refine hK.out _ _ qX (fun hHeld => ?_)
    clear hK K
    refine rdL 0 fun K hK => ?_
    go_simp
    refine hK.out _ _ qXE (fun hHeld => ?_)
    clear hK K
    obtain ⟨v2, w2, hr1, hb2, A', c', w4, hr2, hf⟩ := snocTC W2.drew r.A1 r.c1 d.back d.now HRow.out HNil.out HLen.out
    rw [show W2.drew.heap.size = W2.heap.size from rfl] at hr1 hb2
    (try rw [show W2.drew.heap.size = W2.heap.size from rfl] at hr2)
    have Hr1 := hid hr1
    have Hr2 := hid hr2
    have HF := hid hf.undrew
    have hb2' : Below W2.heap.size W2 w2 := ⟨hb2.os, hb2.tape, hb2.output, hb2.size, hb2.block⟩
    have hx2 := HbW.out.below hb2'
    have hb4 : Below W2.heap.size W2 w4 := ⟨hf.1.os, hf.1.tape, hf.1.output, hf.1.size, hf.1.block⟩
    have hx4 := HbW.out.below hb4
    have q2 : (w2).cell? ⟨w.heap.size, 2, none⟩ = some (.slice r.A1 d.back.length r.c1) ∧ (w2).cell? ⟨w.heap.size, 0, none⟩ = some (.string (bs d.now.1)) ∧ (w2).cell? ⟨w.heap.size, 1, none⟩ = some (.int .i64 d.now.2) := ⟨hx2.c 2 rfl, hx2.c 0 rfl, hx2.c 1 rfl⟩
    have q2X : (w2.alloc (.cells #[.string (bs d.now.1), .int .i64 d.now.2] 28)).cell? ⟨w.heap.size, 2, none⟩ = some (.slice r.A1 d.back.length r.c1) ∧ (w2.alloc (.cells #[.string (bs d.now.1), .int .i64 d.now.2] 28)).cell? ⟨w.heap.size, 0, none⟩ = some (.string (bs d.now.1)) ∧ (w2.alloc (.cells #[.string (bs d.now.1), .int .i64 d.now.2] 28)).cell? ⟨w.heap.size, 1, none⟩ = some (.int .i64 d.now.2) := ⟨(hx2.alloc (.cells #[.string (bs d.now.1), .int .i64 d.now.2] 28)).c 2 rfl, (hx2.alloc (.cells #[.string (bs d.now.1), .int .i64 d.now.2] 28)).c 0 rfl, (hx2.alloc (.cells #[.string (bs d.now.1), .int .i64 d.now.2] 28)).c 1 rfl⟩
    have q4 : (w4).cell? ⟨w.heap.size, 2, none⟩ = some (.slice r.A1 d.back.length r.c1) ∧ (w4).cell? ⟨w.heap.size, 0, none⟩ = some (.string (bs d.now.1)) ∧ (w4).cell? ⟨w.heap.size, 1, none⟩ = some (.int .i64 d.now.2) := ⟨hx4.c 2 rfl, hx4.c 0 rfl, hx4.c 1 rfl⟩
    have qf4 := hx4.free 2
    have qc4 := hx4.c 2 rfl
    clear hr1 hr2 hf hb2 hb2' hb4 hx2 hx4
    refine lastAny_ready (rs := [3]) (by kernel_rfl) (by simp) ?_
    refine AllReadyL.cons (o := ⟨some 13, _, _, _, _, _⟩) rfl (fun K hK => ?_) AllReadyL.nil
    refine step_append_g (by kernel_rfl) (.tmp 10) (.tmp 12) 29 rfl _ _ rfl rfl Hr1.out ?_
    refine hK.out _ _ q2 (fun hHeld => ?_)
    clear hK K
    refine lastAny_ready (rs := [7]) (by kernel_rfl) (by simp) ?_
    refine AllReadyL.cons (o := ⟨some 17, _, _, _, _, _⟩) rfl (fun K hK => ?_) AllReadyL.nil
    refine step_append_g (by kernel_rfl) (.tmp 13) (.tmp 16) 29 rfl _ _ rfl rfl Hr2.out ?_
    refine hK.out _ _ q4 (fun hHeld => ?_)
    clear hK K
    refine tkL 8 ?_
    refine enL fun K hK => ?_
    go_simp
    refine hK.out _ _ ?_
    clear hK K
    clear qW qE qX qEX qXE q2 q2X Hr1 Hr2 hHeld
    go_wp2_with fail
    go_meet
    exact ⟨A', c', w4, rfl, rfl, HF⟩
  case rest =>
   obtain ⟨A', c', w4, rfl, hwc, hF⟩ := hcut
   obtain ⟨hb4, hrow, hcc, hcm, hcn, hfr⟩ := hF.out
   have hszA := HS2.out
   have hsel := HA.out
   have hbc : BxA wc w.heap.size 32 [.string (bs d.now.1), .int .i64 d.now.2, .slice A' (d.back.length + 1) c', .slice (some ⟨ga, oa, none⟩) d.forth.length r.c2, .bool d.opn, .slice r.A3 d.kills.length r.c3, .int .i64 d.top, .int .i64 d.last, .int .i64 d.fr, .int .i64 d.to_] := by rw [hwc, ← hsel]; exact (H0w.out.below hb4).set 2 _
   have hmc : BxA wc (w.heap.size + 1) 32 dsZ := by rw [hwc]; exact (HMw.out.below hb4).other (by omega) _
   have hBc : Below w.heap.size w wc := by rw [hwc]; exact (HB2.out.trans (hb4.mono HB2.out.size)).setCell (p := ⟨w.heap.size, 2, none⟩) (Nat.le_refl _) _
   have ho4 : Only (fun i => i = w.heap.size) W2 wc := by rw [hwc]; exact (Only.of_below (R := fun i => i = w.heap.size) hb4).set (p := ⟨w.heap.size, 2, none⟩) (.inl rfl) _
   have hSc := HrowS.out.keep ho4 (fun i hi (e : i = _) => by have := HD.out.lt i hi; omega)
   have hcell := (hSc.row.at_some (by rw [Hlen.out]; omega) hsel).1
   have hyy : d.forth[bk0.length]? = some y := by rw [Hby.out]; simp
   have s0 : wc.cell? ⟨ga, oa + bk0.length * 2, none⟩ = some (.string (bs y.1)) := hcell _ _ (flat_get biC_length hyy (j := 0) rfl)
   have s1 : wc.cell? ⟨ga, oa + bk0.length * 2 + 1, none⟩ = some (.int .i64 y.2) := hcell _ _ (flat_get biC_length hyy (j := 1) rfl)
   obtain ⟨W5, hW5⟩ : ∃ W5, (((wc.setCell ⟨w.heap.size, 0, none⟩ (.string (bs y.1))).setCell ⟨w.heap.size, 1, none⟩ (.int .i64 y.2)).setCell ⟨w.heap.size, 3, none⟩ (.slice (some ⟨ga, oa, none⟩) bk0.length r.c2)).setCell ⟨w.heap.size, 4, none⟩ (.bool false) = W5 := ⟨_, rfl⟩
   have hb5 : BxA W5 w.heap.size 32 [.string (bs y.1), .int .i64 y.2, .slice A' (d.back.length + 1) c', .slice (some ⟨ga, oa, none⟩) bk0.length r.c2, .bool false, .slice r.A3 d.kills.length r.c3, .int .i64 d.top, .int .i64 d.last, .int .i64 d.fr, .int .i64 d.to_] := by rw [← hW5]; exact (((hbc.set 0 _).set 1 _).set 3 _).set 4 _
   have hm5 : BxA W5 (w.heap.size + 1) 32 dsZ := by rw [← hW5]; exact (((hmc.other (by omega) _).other (by omega) _).other (by omega) _).other (by omega) _
   have ho5 : Only (fun i => i = w.heap.size) wc W5 := by rw [← hW5]; exact ((((Only.refl (fun i => i = w.heap.size) wc).set (p := ⟨w.heap.size, 0, none⟩) (.inl rfl) _).set (p := ⟨w.heap.size, 1, none⟩) (.inl rfl) _).set (p := ⟨w.heap.size, 3, none⟩) (.inl rfl) _).set (p := ⟨w.heap.size, 4, none⟩) (.inl rfl) _
   have hB5 : Below w.heap.size w W5 := hBc.trans (ho5.below hBc.size (fun i (hi : i = _) => by omega))
   have hS5 := hSc.keep ho5 (fun i hi (e : i = _) => by have := HD.out.lt i hi; omega)
   have ho45 : Only (fun i => i = w.heap.size) w4 W5 := by
    refine Only.trans ?_ ho5 (fun i h => .inl h)
    rw [hwc]
    exact (Only.refl (fun i => i = w.heap.size) w4).set (p := ⟨w.heap.size, 2, none⟩) (.inl rfl) _
   have hrow5 : RowT biC W5 (fun k => W2.heap.size ≤ k ∧ k < w4.heap.size) A' (d.back ++ [d.now]) := hrow.keep ho45 (fun i hi (e : i = _) => by omega)
   have hBT : Below w.heap.size w (ten W5 (w.heap.size + 1) (.string (bs y.1)) (.int .i64 y.2) (.slice A' (d.back.length + 1) c') (.slice (some ⟨ga, oa, none⟩) bk0.length r.c2) (.bool false) (.slice r.A3 d.kills.length r.c3) (.int .i64 d.top) (.int .i64 d.last) (.int .i64 d.fr) (.int .i64 d.to_)) := hB5.trans ((ten_only W5 _ _ _ _ _ _ _ _ _ _ _).below hB5.size (fun i (hi : i = _) => by omega))
   have hlenT : (d.back ++ [d.now]).length = d.back.length + 1 := by simp
   have hll := Hlen.out
   have hl32 := HO.out.len
   have hrS : RowT biC (ten W5 (w.heap.size + 1) (.string (bs y.1)) (.int .i64 y.2) (.slice A' (d.back.length + 1) c') (.slice (some ⟨ga, oa, none⟩) bk0.length r.c2) (.bool false) (.slice r.A3 d.kills.length r.c3) (.int .i64 d.top) (.int .i64 d.last) (.int .i64 d.fr) (.int .i64 d.to_)) D (some ⟨ga, oa, none⟩) bk0 := by
    have hh := (hS5.keep (ten_only W5 (w.heap.size + 1) (.string (bs y.1)) (.int .i64 y.2) (.slice A' (d.back.length + 1) c') (.slice (some ⟨ga, oa, none⟩) bk0.length r.c2) (.bool false) (.slice r.A3 d.kills.length r.c3) (.int .i64 d.top) (.int .i64 d.last) (.int .i64 d.fr) (.int .i64 d.to_)) (fun i hi (e : i = (w.heap.size + 1)) => by have := HD.out.lt i hi; omega)).row.take biC_length bk0.length
    rw [hsel, Hby.out, List.take_left] at hh
    exact hh
   have hfin : DsTo w D B (ten W5 (w.heap.size + 1) (.string (bs y.1)) (.int .i64 y.2) (.slice A' (d.back.length + 1) c') (.slice (some ⟨ga, oa, none⟩) bk0.length r.c2) (.bool false) (.slice r.A3 d.kills.length r.c3) (.int .i64 d.top) (.int .i64 d.last) (.int .i64 d.fr) (.int .i64 d.to_)) ⟨A', c', some ⟨ga, oa, none⟩, r.c2, r.A3, r.c3⟩ ⟨y, d.back ++ [d.now], bk0, false, d.kills, d.top, d.last, d.fr, d.to_⟩ := by
    refine ⟨fun k => D k ∨ (W2.heap.size ≤ k ∧ k < w4.heap.size), ⟨fun k hk => ?_, ⟨(hrow5.keep (ten_only W5 _ _ _ _ _ _ _ _ _ _ _) (fun i hi (e : i = _) => by omega)).mono (fun i hi => .inr hi), (by show (d.back ++ [d.now]).length ≤ c'; simp; omega), hcm, hcn⟩, ⟨hrS.mono (fun i hi => .inl hi), (by show bk0.length ≤ r.c2; have := HrowS.out.le; omega), HrowS.out.max, fun e => by cases e⟩, (HD.out.below hBT).kills.mono (fun k hk => .inl hk)⟩, ⟨?_, fun x hx => by
   rcases List.mem_append.1 hx with h1 | h1
   ·exact HO.out.back x h1
   ·rw [List.mem_singleton.1 h1]; exact HO.out.now, fun x hx => HO.out.forth x (by rw [Hby.out]; exact List.mem_append_left _ hx), ?_, HO.out.kills, HO.out.small, HO.out.top⟩, fun k hk => ?_, hBT⟩
    ·have h2 := ho45.size
     have h3 := (ten_only W5 (w.heap.size + 1) (.string (bs y.1)) (.int .i64 y.2) (.slice A' (d.back.length + 1) c') (.slice (some ⟨ga, oa, none⟩) bk0.length r.c2) (.bool false) (.slice r.A3 d.kills.length r.c3) (.int .i64 d.top) (.int .i64 d.last) (.int .i64 d.fr) (.int .i64 d.to_)).size
     rcases hk with hk | hk
     ·exact Nat.lt_of_lt_of_le (HD.out.lt k hk) hBT.size
     ·exact Nat.lt_of_lt_of_le hk.2 (Nat.le_trans h2 h3)
    ·exact HO.out.forth y (by rw [Hby.out]; simp)
    ·show (d.back ++ [d.now]).length + bk0.length ≤ 32
     omega
    ·rcases hk with hk | hk
     ·exact .inl hk
     ·exact .inr (by omega)
   have k0 := hbc.c 0 rfl
   have k1 := hbc.c 1 rfl
   have k2 := hbc.c 2 rfl
   have k3 := hbc.c 3 rfl
   have k4 := hbc.c 4 rfl
   have k5 := hbc.c 5 rfl
   have k6 := hbc.c 6 rfl
   have k7 := hbc.c 7 rfl
   have k8 := hbc.c 8 rfl
   have k9 := hbc.c 9 rfl
   have u0 := hbc.free 0
   have u1 := hbc.free 1
   have u3 := hbc.free 3
   have u4 := hbc.free 4
   have c0 := hb5.c 0 rfl
   have c1 := hb5.c 1 rfl
   have c2 := hb5.c 2 rfl
   have c3 := hb5.c 3 rfl
   have c4 := hb5.c 4 rfl
   have c5 := hb5.c 5 rfl
   have c6 := hb5.c 6 rfl
   have c7 := hb5.c 7 rfl
   have c8 := hb5.c 8 rfl
   have c9 := hb5.c 9 rfl
   have e0 := hm5.c 0 rfl
   have e1 := hm5.c 1 rfl
   have e2 := hm5.c 2 rfl
   have e3 := hm5.c 3 rfl
   have e4 := hm5.c 4 rfl
   have e5 := hm5.c 5 rfl
   have e6 := hm5.c 6 rfl
   have e7 := hm5.c 7 rfl
   have e8 := hm5.c 8 rfl
   have e9 := hm5.c 9 rfl
   have f0 := hm5.free 0
   have f1 := hm5.free 1
   have f2 := hm5.free 2
   have f3 := hm5.free 3
   have f4 := hm5.free 4
   have f5 := hm5.free 5
   have f6 := hm5.free 6
   have f7 := hm5.free 7
   have f8 := hm5.free 8
   have f9 := hm5.free 9
   have hi1 : bk0.length < d.forth.length := by omega
   have hi2 : (bk0.length : Int) < (d.forth.length : Int) := by omega
   have hi3 : (0 : Int) ≤ (bk0.length : Int) := by omega
   have hi4 : bk0.length ≤ r.c2 := by have := HrowS.out.le; omega
   have hi5 : (bk0.length : Int) ≤ (r.c2 : Int) := by omega
   have HX := hid hm5
   have HF := hid hfin
   have HLT := hid hlenT
   clear hbc hmc hBc ho4 hSc hcell hyy hb5 hm5 ho5 hB5 hS5 ho45 hrow5 hBT hfin hrS hF hrow hcn hfr hb4 hwc hszA hsel hll hlenT hl32
   go_wp2_with fail
   refine bodyPost_ret (results_bx10 rfl _ _ ((w.heap.size + 1)) _ _ _ _ _ _ _ _ _ _ 32 rfl (ten_box HX.out _ _ _ _ _ _ _ _ _ _) Tryz.underlying32 (szS _)) rfl ?_
   refine ⟨_, _, ?_, HF.out⟩
   (try unfold dsV)
   simp only [HLT.out]
   (try rfl)
end
section
open Go Go.RowKit
open Go.Lib (hid)
set_option maxRecDepth 100000
theorem rins_any (b : Bi) (hbl : b.1.length ≤ 600) (x : ByteArray) (hx : x.size ≤ 1000000) : ∃ (p : List UInt8) (q : Int) (is_ : Bool), p.length ≤ 600 ∧ ∀ W, Calls Tryz.prog 69 #[.agg #[.string (bs b.1), .int .i64 b.2], .string x] W fun e w' => e = .returned (.tuple #[.agg #[.string (bs p), .int .i64 q], .bool is_]) ∧ Below W.heap.size W w' := by
 have hxl : (bl x).length ≤ 137438953472 := by
  unfold bl
  have : x.data.toList.length = x.size := by simp
  omega
 have h0 := mS_len b.1
 by_cases h6 : (mS b.1).length + (plainL (bl x)).length ≤ 600
 ·refine ⟨insS (mS b.1) (mA b.1 b.2) (plainL (bl x)), (insA (mS b.1) (mA b.1 b.2) (plainL (bl x)) : Int), true, by rw [insS_length _ _ _ (mA_le _ _)]; exact h6, fun W => ?_⟩
  have := rinsert_ok b.1 (bl x) b.2 (by omega) hxl W h6
  rwa [bs_bl] at this
 ·refine ⟨mS b.1, (mA b.1 b.2 : Int), false, h0, fun W => ?_⟩
  have := rinsert_no b.1 (bl x) b.2 (by omega) hxl W (by omega)
  rwa [bs_bl] at this
set_option maxHeartbeats 8000000 in
theorem dyank_calls (w : World) (D : Nat → Prop) (r : DR) (d : DS) (B : Nat) (h : DsAt w D r d) (hok : d.Ok B) (hB8 : B ≤ 1000000) (b : Bi) (hbl : b.1.length ≤ 600) :
  Calls Tryz.prog 65 #[dsV r d, biV b] w fun e w' => ∃ r' d', e = .returned (dsV r' d') ∧ DsTo w D B w' r' d' := by
 obtain ⟨W2, hW2, hB2, hs2, hb0, hb1, hb2⟩ := boxes7b w r d b
 have k0 := hb0.c 0 rfl
 have k1 := hb0.c 1 rfl
 have k2 := hb0.c 2 rfl
 have k3 := hb0.c 3 rfl
 have k4 := hb0.c 4 rfl
 have k5 := hb0.c 5 rfl
 have k6 := hb0.c 6 rfl
 have k7 := hb0.c 7 rfl
 have k8 := hb0.c 8 rfl
 have k9 := hb0.c 9 rfl
 have j0 := hb1.c0
 have j1 := hb1.c1
 have H0w := hid hb0
 have HYw := hid hb1
 have HMw := hid hb2
 have HB2 := hid hB2
 have HD := hid h
 have HO := hid hok
 have HS2 := hid hs2
 have h0 := mS_len b.1
 clear hb0 hb1 hb2 hB2 hs2 h hok
 by_cases hn : d.kills = []
 ·have hz : ((d.kills.length : Int) == 0) = true := by rw [hn]; rfl
  have hm2 := HMw.out
  have e0 := hm2.c 0 rfl
  have e1 := hm2.c 1 rfl
  have e2 := hm2.c 2 rfl
  have e3 := hm2.c 3 rfl
  have e4 := hm2.c 4 rfl
  have e5 := hm2.c 5 rfl
  have e6 := hm2.c 6 rfl
  have e7 := hm2.c 7 rfl
  have e8 := hm2.c 8 rfl
  have e9 := hm2.c 9 rfl
  have f0 := hm2.free 0
  have f1 := hm2.free 1
  have f2 := hm2.free 2
  have f3 := hm2.free 3
  have f4 := hm2.free 4
  have f5 := hm2.free 5
  have f6 := hm2.free 6
  have f7 := hm2.free 7
  have f8 := hm2.free 8
  have f9 := hm2.free 9
  have HX := hid hm2
  clear hm2 hn
  unfold dsV biV
  go_enter Tryz.func65, Tryz.ntmps65
  go_wp2_with fail
  refine bodyPost_ret (results_bx10 rfl _ _ ((w.heap.size + 1 + 1)) _ _ _ _ _ _ _ _ _ _ 32 rfl (ten_box HX.out _ _ _ _ _ _ _ _ _ _) Tryz.underlying32 (szS _)) rfl ?_
  exact ⟨r, d, rfl, ds_fin HD.out HB2.out ⟨D, HD.out.below HB2.out, HO.out, fun _ h => .inl h, Below.refl _ _⟩ (by omega) (by have := HS2.out; omega) _ _ _ _ _ _ _ _ _ _⟩
 ·have hnl : 0 < d.kills.length := List.length_pos_iff.2 hn
  have hz : ((d.kills.length : Int) == 0) = false := beq_eq_false_iff_ne.2 (by omega)
  have htop : 0 ≤ d.top ∧ d.top < d.kills.length := HO.out.top.resolve_left (fun h => hn h.1)
  obtain ⟨tn, htn⟩ : ∃ tn : Nat, d.top = (tn : Int) := ⟨d.top.toNat, by omega⟩
  have htl : tn < d.kills.length := by omega
  obtain ⟨x, hx⟩ : ∃ x, d.kills[tn]? = some x := ⟨_, List.getElem?_eq_getElem htl⟩
  have hxs : x.size ≤ B := HO.out.small x (List.mem_of_getElem? hx)
  have hks := (HD.out.below HB2.out).kills
  obtain ⟨ga, oa, hA, _⟩ := id hks.row hnl
  have hcell := (hks.row.at_some hnl hA).1
  have s0 : W2.cell? ⟨ga, oa + tn, none⟩ = some (.string x) := by
   have := hcell _ _ (flat_get strC_length hx (j := 0) (v := .string x) rfl)
   rwa [Nat.mul_one] at this
  rw [hA] at k5
  rw [htn] at k6
  have hti : (tn : Int) < (d.kills.length : Int) := by omega
  have HA := hid hA
  have Htn := hid htn
  clear hks hcell hA hn htop htn hx
  have HSS : Hid (∀ W, Below W2.heap.size W2 W → W.cell? ⟨w.heap.size, 5, none⟩ = some (.slice (some ⟨ga, oa, none⟩) d.kills.length r.c3) ∧ W.cell? ⟨w.heap.size, 6, none⟩ = some (.int .i64 (tn : Int)) ∧ W.cell? ⟨(w.heap.size + 1), 0, none⟩ = some (.string (bs b.1)) ∧ W.cell? ⟨(w.heap.size + 1), 1, none⟩ = some (.int .i64 b.2) ∧ W.cell? ⟨ga, oa + tn, none⟩ = some (.string x)) := hid (fun W hW => ⟨((H0w.out.below hW).c 5 rfl).trans (congrArg some (by rw [HA.out])), ((H0w.out.below hW).c 6 rfl).trans (congrArg some (by rw [Htn.out])), (HYw.out.below hW).c0, (HYw.out.below hW).c1, (hW.cell (p := ⟨ga, oa + tn, none⟩) (World.block_lt_of_cell? _ _ s0)).trans s0⟩)
  obtain ⟨p, q, is_, hp6, hI⟩ := rins_any b hbl x (by omega)
  have HI := hid hI
  have Hp := hid hp6
  clear hI hp6 h0
  unfold dsV biV
  go_enter Tryz.func65, Tryz.ntmps65
  go_upto_region 3 with fail
  go_cut [5, 6] from 12 (fun s5 s6 wc => ∃ K, s5 = .pointer (some ⟨K, 0, none⟩) ∧ s6 = .bool is_ ∧ Below W2.heap.size W2 wc ∧ Bx wc K 28 (.string (bs p)) (.int .i64 q) ∧ W2.heap.size ≤ K)
  case first =>
   refine wp_region_last (S := (fun w' => w'.cell? ⟨w.heap.size, 5, none⟩ = some (.slice (some ⟨ga, oa, none⟩) d.kills.length r.c3) ∧ w'.cell? ⟨w.heap.size, 6, none⟩ = some (.int .i64 (tn : Int)) ∧ w'.cell? ⟨(w.heap.size + 1), 0, none⟩ = some (.string (bs b.1)) ∧ w'.cell? ⟨(w.heap.size + 1), 1, none⟩ = some (.int .i64 b.2) ∧ w'.cell? ⟨ga, oa + tn, none⟩ = some (.string x))) 13 (by kernel_rfl) ⟨k5, k6, j0, j1, s0⟩ (fun hHeld => ?_)
   refine tkL 0 ?_
   refine tkL 1 ?_
   refine tkL 2 ?_
   refine tkL 3 ?_
   refine tkL 4 ?_
   refine tkL 5 ?_
   refine tkL 6 ?_
   refine lastAny_ready (rs := [7, 11]) (by kernel_rfl) (by simp) ?_
   refine AllReadyL.cons (o := ⟨some 20, _, _, _, _, _⟩) rfl (fun K hK => ?_) (AllReadyL.cons (o := ⟨some 5, _, _, _, _, _⟩) rfl (fun K hK => ?_) AllReadyL.nil)
   ·(rw [if_pos (by kernel_rfl)])
    go_simp
    refine (HI.out _).mono ?_
    rintro e w3 ⟨rfl, hb3⟩
    have hb3' : Below W2.heap.size W2 w3 := ⟨hb3.os, hb3.tape, hb3.output, hb3.size, hb3.block⟩
    have q3 := HSS.out w3 hb3'
    have hB4 : Below W2.heap.size W2 (w3.alloc (.cells #[.string ⟨#[]⟩, .int .i64 0] 28)) := hb3'.alloc hb3'.size _
    have q4 := HSS.out _ hB4
    have x4 := Bx.new w3 28 (.string ⟨#[]⟩) (.int .i64 0)
    have x5 := Bx.new w3 28 (.string (bs p)) (.int .i64 q)
    have hB5 : Below W2.heap.size W2 (w3.alloc (.cells #[.string (bs p), .int .i64 q] 28)) := hb3'.alloc hb3'.size _
    have q5 := HSS.out _ hB5
    have xc0 := x4.c0
    have xc1 := x4.c1
    have xf0 := x4.f0
    have xf1 := x4.f1
    have HX5 := hid x5
    have HB5 := hid hB5
    have HL5 : Hid (W2.heap.size ≤ w3.heap.size) := hid hb3'.size
    refine hK.out _ _ q3 (fun hHeld => ?_)
    clear hK K
    clear hb3 hb3' hB4 x4 x5 hB5
    refine tkL 8 ?_
    refine tkL 9 ?_
    refine tkL 10 ?_
    refine rdL 11 fun K hK => ?_
    go_simp
    refine hK.out _ _ q4 (fun hHeld => ?_)
    clear hK K
    refine rdL 12 fun K hK => ?_
    go_simp
    refine hK.out _ _ q5 (fun hHeld => ?_)
    clear hK K
    refine enL fun K hK => ?_
    go_simp
    refine hK.out _ _ ?_
    clear hK K
    go_wp2_with fail
    go_meet
    exact ⟨_, rfl, rfl, HB5.out, HX5.out, HL5.out⟩
   ·(rw [if_pos (by kernel_rfl)])
    go_simp
    have hBa : Below W2.heap.size W2 (W2.drew.alloc (.cells #[.string ⟨#[]⟩, .int .i64 0] 28)) := ((Below.refl _ W2).drew).alloc (Nat.le_refl _) _
    have qa := HSS.out _ hBa
    have xa := Bx.new W2.drew 28 (.string ⟨#[]⟩) (.int .i64 0)
    rw [show W2.drew.heap.size = W2.heap.size from rfl] at xa
    have Ha := hid xa
    have HBa := hid hBa
    refine hK.out _ _ qa (fun hHeld => ?_)
    clear hK K
    clear xa hBa
    refine rdL 7 fun K hK => ?_
    go_simp
    refine (HI.out _).mono ?_
    rintro e w3 ⟨rfl, hb3⟩
    have hB3 := HBa.out.trans (hb3.mono HBa.out.size)
    have q3 := HSS.out w3 hB3
    have x4 := Ha.out.below hb3
    have x5 := (x4.set0 (.string (bs p))).set1 (.int .i64 q)
    have hB5 : Below W2.heap.size W2 ((w3.setCell ⟨W2.heap.size, 0, none⟩ (.string (bs p))).setCell ⟨W2.heap.size, 1, none⟩ (.int .i64 q)) := (hB3.setCell (p := ⟨W2.heap.size, 0, none⟩) (Nat.le_refl _) _).setCell (p := ⟨W2.heap.size, 1, none⟩) (Nat.le_refl _) _
    have q5 := HSS.out _ hB5
    have xc0 := x4.c0
    have xc1 := x4.c1
    have xf0 := x4.f0
    have xf1 := x4.f1
    have HX5 := hid x5
    have HB5 := hid hB5
    refine hK.out _ _ q3 (fun hHeld => ?_)
    clear hK K
    clear hb3 hB3 x4 x5 hB5
    refine tkL 8 ?_
    refine tkL 9 ?_
    refine tkL 10 ?_
    refine rdL 12 fun K hK => ?_
    go_simp
    refine hK.out _ _ q5 (fun hHeld => ?_)
    clear hK K
    refine enL fun K hK => ?_
    go_simp
    refine hK.out _ _ ?_
    clear hK K
    go_wp2_with fail
    go_meet
    exact ⟨_, rfl, rfl, HB5.out, HX5.out, Nat.le_refl _⟩
  case rest =>
   obtain ⟨K, rfl, rfl, hBc, hK, hKW⟩ := hcut
   have hs2 := HS2.out
   have hKl := hK.lt
   have h0c := H0w.out.below hBc
   (unfold dsK at h0c; rw [HA.out, Htn.out] at h0c)
   have hyc := HYw.out.below hBc
   have hmc := HMw.out.below hBc
   have hBw := HB2.out.trans (hBc.mono HB2.out.size)
   clear HSS HI s0
   clear j0 j1 k0 k1 k2 k3 k4 k5 k6 k7 k8 k9
   cases is_ with
   | false =>
    have c0 := h0c.c 0 rfl
    have c1 := h0c.c 1 rfl
    have c2 := h0c.c 2 rfl
    have c3 := h0c.c 3 rfl
    have c4 := h0c.c 4 rfl
    have c5 := h0c.c 5 rfl
    have c6 := h0c.c 6 rfl
    have c7 := h0c.c 7 rfl
    have c8 := h0c.c 8 rfl
    have c9 := h0c.c 9 rfl
    have e0 := hmc.c 0 rfl
    have e1 := hmc.c 1 rfl
    have e2 := hmc.c 2 rfl
    have e3 := hmc.c 3 rfl
    have e4 := hmc.c 4 rfl
    have e5 := hmc.c 5 rfl
    have e6 := hmc.c 6 rfl
    have e7 := hmc.c 7 rfl
    have e8 := hmc.c 8 rfl
    have e9 := hmc.c 9 rfl
    have f0 := hmc.free 0
    have f1 := hmc.free 1
    have f2 := hmc.free 2
    have f3 := hmc.free 3
    have f4 := hmc.free 4
    have f5 := hmc.free 5
    have f6 := hmc.free 6
    have f7 := hmc.free 7
    have f8 := hmc.free 8
    have f9 := hmc.free 9
    have HX := hid hmc
    have HBw := hid hBw
    have HlM := hid (show (w.heap.size + 1 + 1) < wc.heap.size by omega)
    clear hmc h0c hyc hBw hBc hK hKW hs2 hKl
    go_wp2_with fail
    refine bodyPost_ret (results_bx10 rfl _ _ ((w.heap.size + 1 + 1)) _ _ _ _ _ _ _ _ _ _ 32 rfl (ten_box HX.out _ _ _ _ _ _ _ _ _ _) Tryz.underlying32 (szS _)) rfl ?_
    refine ⟨r, d, ?_, ds_fin HD.out HBw.out ⟨D, HD.out.below HBw.out, HO.out, fun _ h => .inl h, Below.refl _ _⟩ (by omega) HlM.out _ _ _ _ _ _ _ _ _ _⟩
    (try unfold dsV)
    rw [HA.out, Htn.out]
   | true =>
    obtain ⟨W5, hW5⟩ : ∃ W5, ((wc.setCell ⟨w.heap.size, 8, none⟩ (.int .i64 b.2)).setCell ⟨w.heap.size, 9, none⟩ (.int .i64 q)).setCell ⟨w.heap.size, 7, none⟩ (.int .i64 2) = W5 := ⟨_, rfl⟩
    have h05 : BxA W5 w.heap.size 32 [.string (bs d.now.1), .int .i64 d.now.2, .slice r.A1 d.back.length r.c1, .slice r.A2 d.forth.length r.c2, .bool d.opn, .slice (some ⟨ga, oa, none⟩) d.kills.length r.c3, .int .i64 (tn : Int), .int .i64 2, .int .i64 b.2, .int .i64 q] := by rw [← hW5]; exact ((h0c.set 8 _).set 9 _).set 7 _
    have hm5 : BxA W5 (w.heap.size + 1 + 1) 32 dsZ := by rw [← hW5]; exact ((hmc.other (by omega) _).other (by omega) _).other (by omega) _
    have hk5 : Bx W5 K 28 (.string (bs p)) (.int .i64 q) := by rw [← hW5]; exact ((hK.other (by omega) _).other (by omega) _).other (by omega) _
    have hB5 : Below w.heap.size w W5 := by rw [← hW5]; exact ((hBw.setCell (p := ⟨w.heap.size, 8, none⟩) (Nat.le_refl _) _).setCell (p := ⟨w.heap.size, 9, none⟩) (Nat.le_refl _) _).setCell (p := ⟨w.heap.size, 7, none⟩) (Nat.le_refl _) _
    have HW := hid (dwrite_calls W5 D r (⟨d.now, d.back, d.forth, d.opn, d.kills, d.top, 2, b.2, q⟩ : DS) B ((HD.out.below hB5).same rfl rfl rfl) ⟨HO.out.now, HO.out.back, HO.out.forth, HO.out.len, HO.out.kills, HO.out.small, HO.out.top⟩ (p, q) Hp.out false)
    unfold dsV biV at HW
    simp only [HA.out, Htn.out] at HW
    have HM := hid hm5
    have HB5 := hid hB5
    have HlM := hid (show (w.heap.size + 1 + 1) < W5.heap.size by have := hm5.lt; omega)
    have k0 := h0c.c 0 rfl
    have k1 := h0c.c 1 rfl
    have k2 := h0c.c 2 rfl
    have k3 := h0c.c 3 rfl
    have k4 := h0c.c 4 rfl
    have k5 := h0c.c 5 rfl
    have k6 := h0c.c 6 rfl
    have k7 := h0c.c 7 rfl
    have k8 := h0c.c 8 rfl
    have k9 := h0c.c 9 rfl
    have u7 := h0c.free 7
    have u8 := h0c.free 8
    have u9 := h0c.free 9
    have y1 := hyc.c1
    have v0 := hK.c0
    have v1 := hK.c1
    have c0 := h05.c 0 rfl
    have c1 := h05.c 1 rfl
    have c2 := h05.c 2 rfl
    have c3 := h05.c 3 rfl
    have c4 := h05.c 4 rfl
    have c5 := h05.c 5 rfl
    have c6 := h05.c 6 rfl
    have c7 := h05.c 7 rfl
    have c8 := h05.c 8 rfl
    have c9 := h05.c 9 rfl
    have z0 := hk5.c0
    have z1 := hk5.c1
    clear hmc h0c hyc hBw hBc hK hKW hs2 hKl h05 hm5 hk5 hB5
    go_wp2_with fail
    refine HW.out.mono ?_
    rintro e w5 ⟨r', d', rfl, ht⟩
    have hm5 := HM.out.below (by obtain ⟨_, _, _, _, hb⟩ := ht; exact hb)
    have e0 := hm5.c 0 rfl
    have e1 := hm5.c 1 rfl
    have e2 := hm5.c 2 rfl
    have e3 := hm5.c 3 rfl
    have e4 := hm5.c 4 rfl
    have e5 := hm5.c 5 rfl
    have e6 := hm5.c 6 rfl
    have e7 := hm5.c 7 rfl
    have e8 := hm5.c 8 rfl
    have e9 := hm5.c 9 rfl
    have f0 := hm5.free 0
    have f1 := hm5.free 1
    have f2 := hm5.free 2
    have f3 := hm5.free 3
    have f4 := hm5.free 4
    have f5 := hm5.free 5
    have f6 := hm5.free 6
    have f7 := hm5.free 7
    have f8 := hm5.free 8
    have f9 := hm5.free 9
    have HX := hid hm5
    have HT := hid ht
    clear ht hm5
    (try unfold dsV)
    go_wp2_with fail
    refine bodyPost_ret (results_bx10 rfl _ _ ((w.heap.size + 1 + 1)) _ _ _ _ _ _ _ _ _ _ 32 rfl (ten_box HX.out _ _ _ _ _ _ _ _ _ _) Tryz.underlying32 (szS _)) rfl ?_
    exact ⟨r', d', rfl, ds_fin HD.out HB5.out HT.out (by omega) HlM.out _ _ _ _ _ _ _ _ _ _⟩
end
section
open Go Go.RowKit
open Go.Lib (hid)
set_option maxRecDepth 100000
set_option maxHeartbeats 8000000 in
theorem dpop_calls (w : World) (D : Nat → Prop) (r : DR) (d : DS) (B : Nat) (h : DsAt w D r d) (hok : d.Ok B) (hB8 : B ≤ 1000000) :
  Calls Tryz.prog 66 #[dsV r d] w fun e w' => ∃ r' d', e = .returned (dsV r' d') ∧ DsTo w D B w' r' d' := by
 obtain ⟨W2, hW2, hB2, hs2, hb0, hb1⟩ := boxes7 w r d
 have HD := hid h
 have HO := hid hok
 have hk8 := hok.kills
 have htop := hok.top
 have Hp : Hid ((cutR (mS d.now.1) (mA d.now.1 d.now.2) (backL (mS d.now.1) d.fr) (backL (mS d.now.1) d.to_)).1.length ≤ 600) := hid (by
  have h0 := mS_len d.now.1
  unfold cutR
  split
  ·unfold cutS
   simp only [List.length_append, List.length_take, List.length_drop]
   have := backL_le (mS d.now.1) d.fr
   have := backL_le (mS d.now.1) d.to_
   omega
  ·exact h0)
 have htb : 0 ≤ d.top ∧ d.top ≤ 8 := by rcases htop with h1 | h1 <;> omega
 have hw1 : IntKind.i64.wrap (d.top + 1) = d.top + 1 := IntWalk.i64_in _ (by omega)
 clear h hok
 by_cases hbig : (d.kills.length : Int) ≤ d.top + 1
 ·have HOK : Hid ((⟨d.now, d.back, d.forth, d.opn, d.kills, 0, 2, d.fr, d.to_⟩ : DS).Ok B) := hid ⟨HO.out.now, HO.out.back, HO.out.forth, HO.out.len, HO.out.kills, HO.out.small, by
   by_cases hk : d.kills = []
   ·exact .inl ⟨hk, rfl⟩
   ·have := List.length_pos_iff.2 hk
    exact .inr ⟨Int.le_refl 0, show (0 : Int) < d.kills.length by omega⟩⟩
  clear htop hk8 htb hs2
  obtain ⟨W3, hW3⟩ : ∃ W3, (((W2.setCell ⟨w.heap.size, 7, none⟩ (.int .i64 2)).setCell ⟨w.heap.size, 6, none⟩ (.int .i64 (d.top + 1))).setCell ⟨w.heap.size, 6, none⟩ (.int .i64 0)) = W3 := ⟨_, rfl⟩
  have h03 : BxA W3 w.heap.size 32 [.string (bs d.now.1), .int .i64 d.now.2, .slice r.A1 d.back.length r.c1, .slice r.A2 d.forth.length r.c2, .bool d.opn, .slice r.A3 d.kills.length r.c3, .int .i64 0, .int .i64 2, .int .i64 d.fr, .int .i64 d.to_] := by rw [← hW3]; exact (((hb0.set 7 _).set 6 _).set 6 _)
  have hm3 : BxA W3 (w.heap.size + 1) 32 dsZ := by rw [← hW3]; exact (((hb1.other (by omega) _).other (by omega) _).other (by omega) _)
  have hB3 : Below w.heap.size w W3 := by rw [← hW3]; exact (((hB2.setCell (p := ⟨w.heap.size, 7, none⟩) (Nat.le_refl _) _).setCell (p := ⟨w.heap.size, 6, none⟩) (Nat.le_refl _) _).setCell (p := ⟨w.heap.size, 6, none⟩) (Nat.le_refl _) _)
  have h0x : BxA ((W2.setCell ⟨w.heap.size, 7, none⟩ (.int .i64 2)).setCell ⟨w.heap.size, 6, none⟩ (.int .i64 (d.top + 1))) w.heap.size 32 [.string (bs d.now.1), .int .i64 d.now.2, .slice r.A1 d.back.length r.c1, .slice r.A2 d.forth.length r.c2, .bool d.opn, .slice r.A3 d.kills.length r.c3, .int .i64 (d.top + 1), .int .i64 2, .int .i64 d.fr, .int .i64 d.to_] := ((hb0.set 7 _).set 6 _)
  have x5 := h0x.c 5 rfl
  have x6 := h0x.c 6 rfl
  have k0 := hb0.c 0 rfl
  have k1 := hb0.c 1 rfl
  have k2 := hb0.c 2 rfl
  have k3 := hb0.c 3 rfl
  have k4 := hb0.c 4 rfl
  have k5 := hb0.c 5 rfl
  have k6 := hb0.c 6 rfl
  have k7 := hb0.c 7 rfl
  have k8 := hb0.c 8 rfl
  have k9 := hb0.c 9 rfl
  have u6 := hb0.free 6
  have u7 := hb0.free 7
  have c0 := h03.c 0 rfl
  have c1 := h03.c 1 rfl
  have c2 := h03.c 2 rfl
  have c3 := h03.c 3 rfl
  have c4 := h03.c 4 rfl
  have c5 := h03.c 5 rfl
  have c6 := h03.c 6 rfl
  have c7 := h03.c 7 rfl
  have c8 := h03.c 8 rfl
  have c9 := h03.c 9 rfl
  have HM := hid hm3
  have H03 := hid h03
  have HB3 := hid hB3
  have HlM := hid hm3.lt
  have HC := hid (rcutT_calls d.now.1 d.now.2 d.fr d.to_ (by have := HO.out.now; omega) W3)
  have hge : decide ((d.kills.length : Int) ≤ d.top + 1) = true := decide_eq_true hbig
  clear hm3 h03 hB3 hb0 hb1 hB2 h0x
  generalize (cutR (mS d.now.1) (mA d.now.1 d.now.2) (backL (mS d.now.1) d.fr) (backL (mS d.now.1) d.to_)).1 = p at *
  generalize ((cutR (mS d.now.1) (mA d.now.1 d.now.2) (backL (mS d.now.1) d.fr) (backL (mS d.now.1) d.to_)).2.1 : Int) = q at *
  generalize (cutR (mS d.now.1) (mA d.now.1 d.now.2) (backL (mS d.now.1) d.fr) (backL (mS d.now.1) d.to_)).2.2 = z at *
  unfold dsV
  go_enter Tryz.func66, Tryz.ntmps66
  go_wp2_with fail
  refine HC.out.mono ?_
  rintro e w4 ⟨rfl, hb4⟩
  have hB4 : Below w.heap.size w (w4.alloc (.cells #[.string (bs p), .int .i64 q] 28)) := (HB3.out.trans (hb4.mono HB3.out.size)).alloc (by have := HB3.out.size; have := hb4.size; omega) _
  have h04 := (H03.out.below hb4).alloc (.cells #[.string (bs p), .int .i64 q] 28)
  have hm4 := (HM.out.below hb4).alloc (.cells #[.string (bs p), .int .i64 q] 28)
  have hx4 := Bx.new w4 28 (.string (bs p)) (.int .i64 q)
  have HY := hid (dyank_calls (w4.alloc (.cells #[.string (bs p), .int .i64 q] 28)) D r (⟨d.now, d.back, d.forth, d.opn, d.kills, 0, 2, d.fr, d.to_⟩ : DS) B ((HD.out.below hB4).same rfl rfl rfl) HOK.out hB8 (p, q) Hp.out)
  unfold dsV biV at HY
  have HM := hid hm4
  have HB4 := hid hB4
  have HlM4 : Hid ((w.heap.size + 1) < (w4.alloc (.cells #[.string (bs p), .int .i64 q] 28)).heap.size) := hid hm4.lt
  clear c0 c1 c2 c3 c4 c5 c6 c7 c8 c9
  clear k0 k1 k2 k3 k4 k5 k6 k7 k8 k9
  clear hge
  have c0 := h04.c 0 rfl
  have c1 := h04.c 1 rfl
  have c2 := h04.c 2 rfl
  have c3 := h04.c 3 rfl
  have c4 := h04.c 4 rfl
  have c5 := h04.c 5 rfl
  have c6 := h04.c 6 rfl
  have c7 := h04.c 7 rfl
  have c8 := h04.c 8 rfl
  have c9 := h04.c 9 rfl
  have z0 := hx4.c0
  have z1 := hx4.c1
  clear hb4 hB4 h04 hm4 hx4 HC
  go_wp2_with fail
  refine HY.out.mono ?_
  rintro e w5 ⟨r', d', rfl, ht⟩
  have hm5 := HM.out.below (by obtain ⟨_, _, _, _, hb⟩ := ht; exact hb)
  have e0 := hm5.c 0 rfl
  have e1 := hm5.c 1 rfl
  have e2 := hm5.c 2 rfl
  have e3 := hm5.c 3 rfl
  have e4 := hm5.c 4 rfl
  have e5 := hm5.c 5 rfl
  have e6 := hm5.c 6 rfl
  have e7 := hm5.c 7 rfl
  have e8 := hm5.c 8 rfl
  have e9 := hm5.c 9 rfl
  have f0 := hm5.free 0
  have f1 := hm5.free 1
  have f2 := hm5.free 2
  have f3 := hm5.free 3
  have f4 := hm5.free 4
  have f5 := hm5.free 5
  have f6 := hm5.free 6
  have f7 := hm5.free 7
  have f8 := hm5.free 8
  have f9 := hm5.free 9
  have HX := hid hm5
  have HT := hid ht
  clear ht hm5
  (try unfold dsV)
  go_wp2_with fail
  refine bodyPost_ret (results_bx10 rfl _ _ ((w.heap.size + 1)) _ _ _ _ _ _ _ _ _ _ 32 rfl (ten_box HX.out _ _ _ _ _ _ _ _ _ _) Tryz.underlying32 (szS _)) rfl ?_
  exact ⟨r', d', rfl, ds_fin HD.out HB4.out HT.out (by omega) HlM4.out _ _ _ _ _ _ _ _ _ _⟩
 ·have HOK : Hid ((⟨d.now, d.back, d.forth, d.opn, d.kills, d.top + 1, 2, d.fr, d.to_⟩ : DS).Ok B) := hid ⟨HO.out.now, HO.out.back, HO.out.forth, HO.out.len, HO.out.kills, HO.out.small, .inr ⟨show 0 ≤ d.top + 1 by omega, show d.top + 1 < d.kills.length by omega⟩⟩
  clear htop hk8 htb hs2
  obtain ⟨W3, hW3⟩ : ∃ W3, ((W2.setCell ⟨w.heap.size, 7, none⟩ (.int .i64 2)).setCell ⟨w.heap.size, 6, none⟩ (.int .i64 (d.top + 1))) = W3 := ⟨_, rfl⟩
  have h03 : BxA W3 w.heap.size 32 [.string (bs d.now.1), .int .i64 d.now.2, .slice r.A1 d.back.length r.c1, .slice r.A2 d.forth.length r.c2, .bool d.opn, .slice r.A3 d.kills.length r.c3, .int .i64 (d.top + 1), .int .i64 2, .int .i64 d.fr, .int .i64 d.to_] := by rw [← hW3]; exact ((hb0.set 7 _).set 6 _)
  have hm3 : BxA W3 (w.heap.size + 1) 32 dsZ := by rw [← hW3]; exact ((hb1.other (by omega) _).other (by omega) _)
  have hB3 : Below w.heap.size w W3 := by rw [← hW3]; exact ((hB2.setCell (p := ⟨w.heap.size, 7, none⟩) (Nat.le_refl _) _).setCell (p := ⟨w.heap.size, 6, none⟩) (Nat.le_refl _) _)
  have k0 := hb0.c 0 rfl
  have k1 := hb0.c 1 rfl
  have k2 := hb0.c 2 rfl
  have k3 := hb0.c 3 rfl
  have k4 := hb0.c 4 rfl
  have k5 := hb0.c 5 rfl
  have k6 := hb0.c 6 rfl
  have k7 := hb0.c 7 rfl
  have k8 := hb0.c 8 rfl
  have k9 := hb0.c 9 rfl
  have u6 := hb0.free 6
  have u7 := hb0.free 7
  have c0 := h03.c 0 rfl
  have c1 := h03.c 1 rfl
  have c2 := h03.c 2 rfl
  have c3 := h03.c 3 rfl
  have c4 := h03.c 4 rfl
  have c5 := h03.c 5 rfl
  have c6 := h03.c 6 rfl
  have c7 := h03.c 7 rfl
  have c8 := h03.c 8 rfl
  have c9 := h03.c 9 rfl
  have HM := hid hm3
  have H03 := hid h03
  have HB3 := hid hB3
  have HlM := hid hm3.lt
  have HC := hid (rcutT_calls d.now.1 d.now.2 d.fr d.to_ (by have := HO.out.now; omega) W3)
  have hge : decide ((d.kills.length : Int) ≤ d.top + 1) = false := decide_eq_false hbig
  clear hm3 h03 hB3 hb0 hb1 hB2
  generalize (cutR (mS d.now.1) (mA d.now.1 d.now.2) (backL (mS d.now.1) d.fr) (backL (mS d.now.1) d.to_)).1 = p at *
  generalize ((cutR (mS d.now.1) (mA d.now.1 d.now.2) (backL (mS d.now.1) d.fr) (backL (mS d.now.1) d.to_)).2.1 : Int) = q at *
  generalize (cutR (mS d.now.1) (mA d.now.1 d.now.2) (backL (mS d.now.1) d.fr) (backL (mS d.now.1) d.to_)).2.2 = z at *
  unfold dsV
  go_enter Tryz.func66, Tryz.ntmps66
  go_wp2_with fail
  refine HC.out.mono ?_
  rintro e w4 ⟨rfl, hb4⟩
  have hB4 : Below w.heap.size w (w4.alloc (.cells #[.string (bs p), .int .i64 q] 28)) := (HB3.out.trans (hb4.mono HB3.out.size)).alloc (by have := HB3.out.size; have := hb4.size; omega) _
  have h04 := (H03.out.below hb4).alloc (.cells #[.string (bs p), .int .i64 q] 28)
  have hm4 := (HM.out.below hb4).alloc (.cells #[.string (bs p), .int .i64 q] 28)
  have hx4 := Bx.new w4 28 (.string (bs p)) (.int .i64 q)
  have HY := hid (dyank_calls (w4.alloc (.cells #[.string (bs p), .int .i64 q] 28)) D r (⟨d.now, d.back, d.forth, d.opn, d.kills, (d.top + 1), 2, d.fr, d.to_⟩ : DS) B ((HD.out.below hB4).same rfl rfl rfl) HOK.out hB8 (p, q) Hp.out)
  unfold dsV biV at HY
  have HM := hid hm4
  have HB4 := hid hB4
  have HlM4 : Hid ((w.heap.size + 1) < (w4.alloc (.cells #[.string (bs p), .int .i64 q] 28)).heap.size) := hid hm4.lt
  clear c0 c1 c2 c3 c4 c5 c6 c7 c8 c9
  clear k0 k1 k2 k3 k4 k5 k6 k7 k8 k9
  clear hge
  have c0 := h04.c 0 rfl
  have c1 := h04.c 1 rfl
  have c2 := h04.c 2 rfl
  have c3 := h04.c 3 rfl
  have c4 := h04.c 4 rfl
  have c5 := h04.c 5 rfl
  have c6 := h04.c 6 rfl
  have c7 := h04.c 7 rfl
  have c8 := h04.c 8 rfl
  have c9 := h04.c 9 rfl
  have z0 := hx4.c0
  have z1 := hx4.c1
  clear hb4 hB4 h04 hm4 hx4 HC
  go_wp2_with fail
  refine HY.out.mono ?_
  rintro e w5 ⟨r', d', rfl, ht⟩
  have hm5 := HM.out.below (by obtain ⟨_, _, _, _, hb⟩ := ht; exact hb)
  have e0 := hm5.c 0 rfl
  have e1 := hm5.c 1 rfl
  have e2 := hm5.c 2 rfl
  have e3 := hm5.c 3 rfl
  have e4 := hm5.c 4 rfl
  have e5 := hm5.c 5 rfl
  have e6 := hm5.c 6 rfl
  have e7 := hm5.c 7 rfl
  have e8 := hm5.c 8 rfl
  have e9 := hm5.c 9 rfl
  have f0 := hm5.free 0
  have f1 := hm5.free 1
  have f2 := hm5.free 2
  have f3 := hm5.free 3
  have f4 := hm5.free 4
  have f5 := hm5.free 5
  have f6 := hm5.free 6
  have f7 := hm5.free 7
  have f8 := hm5.free 8
  have f9 := hm5.free 9
  have HX := hid hm5
  have HT := hid ht
  clear ht hm5
  (try unfold dsV)
  go_wp2_with fail
  refine bodyPost_ret (results_bx10 rfl _ _ ((w.heap.size + 1)) _ _ _ _ _ _ _ _ _ _ 32 rfl (ten_box HX.out _ _ _ _ _ _ _ _ _ _) Tryz.underlying32 (szS _)) rfl ?_
  exact ⟨r', d', rfl, ds_fin HD.out HB4.out HT.out (by omega) HlM4.out _ _ _ _ _ _ _ _ _ _⟩
end
section
open Go Go.RowKit
open Go.Lib (hid)
set_option maxRecDepth 100000
set_option maxHeartbeats 4000000 in
theorem dclear_calls (w : World) (D : Nat → Prop) (r : DR) (d : DS) (B : Nat) (h : DsAt w D r d) (hok : d.Ok B) :
  Calls Tryz.prog 32 #[dsV r d] w fun e w' => ∃ r' d', e = .returned (dsV r' d') ∧ DsTo w D B w' r' d' := by
 have hb : BxA ((w.alloc (.cells #[.string (bs d.now.1), .int .i64 d.now.2, .slice r.A1 d.back.length r.c1, .slice r.A2 d.forth.length r.c2, .bool d.opn, .slice r.A3 d.kills.length r.c3, .int .i64 d.top, .int .i64 d.last, .int .i64 d.fr, .int .i64 d.to_] 32)).alloc (.cells #[.string ⟨#[]⟩, .int .i64 0, .slice none 0 0, .slice none 0 0, .bool false, .slice r.A3 d.kills.length r.c3, .int .i64 d.top, .int .i64 0, .int .i64 0, .int .i64 0] 32)) (w.heap.size + 1) 32 [.string ⟨#[]⟩, .int .i64 0, .slice none 0 0, .slice none 0 0, .bool false, .slice r.A3 d.kills.length r.c3, .int .i64 d.top, .int .i64 0, .int .i64 0, .int .i64 0] := by
  have := BxA.new (w.alloc (.cells #[.string (bs d.now.1), .int .i64 d.now.2, .slice r.A1 d.back.length r.c1, .slice r.A2 d.forth.length r.c2, .bool d.opn, .slice r.A3 d.kills.length r.c3, .int .i64 d.top, .int .i64 d.last, .int .i64 d.fr, .int .i64 d.to_] 32)) 32 [.string ⟨#[]⟩, .int .i64 0, .slice none 0 0, .slice none 0 0, .bool false, .slice r.A3 d.kills.length r.c3, .int .i64 d.top, .int .i64 0, .int .i64 0, .int .i64 0]
  rwa [World.size_alloc] at this
 have hB : Below w.heap.size w ((w.alloc (.cells #[.string (bs d.now.1), .int .i64 d.now.2, .slice r.A1 d.back.length r.c1, .slice r.A2 d.forth.length r.c2, .bool d.opn, .slice r.A3 d.kills.length r.c3, .int .i64 d.top, .int .i64 d.last, .int .i64 d.fr, .int .i64 d.to_] 32)).alloc (.cells #[.string ⟨#[]⟩, .int .i64 0, .slice none 0 0, .slice none 0 0, .bool false, .slice r.A3 d.kills.length r.c3, .int .i64 d.top, .int .i64 0, .int .i64 0, .int .i64 0] 32)) := ((Below.refl _ w).alloc (Nat.le_refl _) _).alloc (by simp) _
 unfold dsV
 go_enter Tryz.func32, Tryz.ntmps32
 go_wp2_with fail
 refine bodyPost_ret (results_bx10 rfl _ _ (w.heap.size + 1) _ _ _ _ _ _ _ _ _ _ 32 rfl hb Tryz.underlying32 (szS _)) rfl ?_
 exact ⟨⟨none, 0, none, 0, r.A3, r.c3⟩, ⟨([], 0), [], [], false, d.kills, d.top, 0, 0, 0⟩, rfl, D, ⟨fun k hk => Nat.lt_of_lt_of_le (h.lt k hk) hB.size, RowD.empty _ _ _, RowD.empty _ _ _, (h.below hB).kills⟩, ⟨Nat.zero_le _, fun _ hx => absurd hx List.not_mem_nil, fun _ hx => absurd hx List.not_mem_nil, Nat.zero_le _, hok.kills, hok.small, hok.top⟩, fun k hk => .inl hk, hB⟩
theorem bx_keep7 {w w' : World} {g : Nat} {t : TypeId} {x y : Value} (h : Bx w g t x y) {R' : Nat → Prop} (ho : Only R' w w') (hn : ¬ R' g) : Bx w' g t x y := (ho.block g h.lt hn).trans h
def DsIn (D : Nat → Prop) (B : Nat) (w' : World) (Z : Nat) (r : DR) (d : DS) : Prop := ∃ D', DsAt w' D' r d ∧ d.Ok B ∧ ∀ k, D' k → D k ∨ Z ≤ k
theorem dsin_of {w W w5 : World} {D : Nat → Prop} {B M Z : Nat} {r0 r : DR} {d0 d : DS} (h : DsAt w D r0 d0) (ht : DsTo W D B w5 r d) (hM : w.heap.size ≤ M) (hM2 : M < W.heap.size) (hZ : Z ≤ W.heap.size) (v0 v1 v2 v3 v4 v5 v6 v7 v8 v9 : Value) : DsIn D B (ten w5 M v0 v1 v2 v3 v4 v5 v6 v7 v8 v9) Z r d := by
 obtain ⟨D', a1, a2, a3, a4⟩ := ht
 have ho := ten_only w5 M v0 v1 v2 v3 v4 v5 v6 v7 v8 v9
 refine ⟨D', a1.keep ho (fun k hk (e : k = M) => ?_), a2, fun k hk => (a3 k hk).imp id (fun h => Nat.le_trans hZ h)⟩
 rcases a3 k hk with h1 | h1
 ·have := h.lt k h1; omega
 ·omega
theorem dsin_fin {w wc : World} {D : Nat → Prop} {B M Z : Nat} {r0 r : DR} {d0 d : DS} (h : DsAt w D r0 d0) (ht : DsIn D B wc Z r d) (hb : Below w.heap.size w wc) (hM : w.heap.size ≤ M) (hM2 : M < Z) (v0 v1 v2 v3 v4 v5 v6 v7 v8 v9 : Value) (hwZ : w.heap.size ≤ Z := by omega) : DsTo w D B (ten wc M v0 v1 v2 v3 v4 v5 v6 v7 v8 v9).drew r d := by
 obtain ⟨D', a1, a2, a3⟩ := ht
 have ho := (ten_only wc M v0 v1 v2 v3 v4 v5 v6 v7 v8 v9).drew
 have hbd : Below w.heap.size w wc := hb
 refine ⟨D', a1.keep ho (fun k hk (e : k = M) => ?_), a2, fun k hk => (a3 k hk).imp id (fun h => Nat.le_trans hwZ h), hbd.trans (ho.below hbd.size (fun i (hi : i = M) => by omega))⟩
 rcases a3 k hk with h1 | h1
 ·have := h.lt k h1; omega
 ·omega
theorem ncmp7 (x y : Bi) : ∃ q : Bool, ∀ W : World, (binOp .neq 28 (.agg #[.string (bs x.1), .int .i64 x.2]) (.agg #[.string (bs y.1), .int .i64 y.2])).run Tryz.prog W = .ok (.bool q) W := by
 refine ⟨!(decide (x = y)), fun W => ?_⟩
 obtain ⟨a, n⟩ := x
 obtain ⟨b, m⟩ := y
 have h1 := Tryz.underlying28
 have h2 := Tryz.underlying9
 have h3 := Tryz.underlying3
 rw [run_neq_struct]
 go_simp
 by_cases e1 : a = b <;> by_cases e2 : n = m <;> simp [e1, e2]
set_option maxHeartbeats 8000000 in
theorem dchange_calls (w : World) (D : Nat → Prop) (r : DR) (d : DS) (B : Nat) (h : DsAt w D r d) (hok : d.Ok B) (b : Bi) (hbl : b.1.length ≤ 137438953472) :
  Calls Tryz.prog 30 #[dsV r d, biV b] w fun e w' => ∃ r' d' q, e = .returned (.tuple #[dsV r' d', .bool q]) ∧ DsTo w D B w' r' d' := by
 obtain ⟨W2, hW2, hB2, hs2, hb0, hb1, hb2⟩ := boxes7b w r d b
 obtain ⟨W3, hW3⟩ : ∃ W3, (W2.alloc (.cells #[.string (bs d.now.1), .int .i64 d.now.2] 28)).setCell ⟨w.heap.size, 7, none⟩ (.int .i64 0) = W3 := ⟨_, rfl⟩
 have h03 : BxA W3 w.heap.size 32 [.string (bs d.now.1), .int .i64 d.now.2, .slice r.A1 d.back.length r.c1, .slice r.A2 d.forth.length r.c2, .bool d.opn, .slice r.A3 d.kills.length r.c3, .int .i64 d.top, .int .i64 0, .int .i64 d.fr, .int .i64 d.to_] := by rw [← hW3]; exact (hb0.alloc _).set 7 _
 have hy3 : Bx W3 (w.heap.size + 1) 28 (.string (bs b.1)) (.int .i64 b.2) := by rw [← hW3]; exact (hb1.alloc _).other (by omega) _
 have hm3 : BxA W3 (w.heap.size + 1 + 1) 32 dsZ := by rw [← hW3]; exact (hb2.alloc _).other (by omega) _
 have hk3 : Bx W3 (w.heap.size + 3) 28 (.string (bs d.now.1)) (.int .i64 d.now.2) := by
  have := (Bx.new W2 28 (.string (bs d.now.1)) (.int .i64 d.now.2)).other (show W2.heap.size ≠ w.heap.size by omega) (i := 7) (.int .i64 0)
  rw [hW3, hs2] at this
  exact this
 have hB3 : Below w.heap.size w W3 := by rw [← hW3]; exact (hB2.alloc hB2.size _).setCell (p := ⟨w.heap.size, 7, none⟩) (Nat.le_refl _) _
 have k0 := hb0.c 0 rfl
 have k1 := hb0.c 1 rfl
 have h0a := hb0.alloc (.cells #[.string (bs d.now.1), .int .i64 d.now.2] 28)
 have k7 := h0a.c 7 rfl
 have u7 := h0a.free 7
 have hsz := hs2
 have H0 := hid h03
 have HY := hid hy3
 have HM := hid hm3
 have HK := hid hk3
 have HB3 := hid hB3
 have Hs3 : Hid (W3.heap.size = w.heap.size + 4) := hid (by rw [← hW3]; simp [World.setCell, hs2])
 have HD := hid h
 have HO := hid hok
 have hms := mS_len b.1
 have HMk := hid (fun W => rmake_calls b.1 b.2 hbl W)
 have Hp := hid hms
 clear hb0 hb1 hb2 hB2 h03 hy3 hm3 hk3 hB3 h hok h0a hms
 generalize mS b.1 = p at *
 generalize (mA b.1 b.2 : Int) = q at *
 unfold dsV biV
 go_enter Tryz.func30, Tryz.ntmps30
 go_upto_region 3 with fail
 go_cut [9] from 10 (fun s9 wc => ∃ r' d', s9 = .pointer (some ⟨w.heap.size, 7, none⟩) ∧ BxA wc w.heap.size 32 [.string (bs d'.now.1), .int .i64 d'.now.2, .slice r'.A1 d'.back.length r'.c1, .slice r'.A2 d'.forth.length r'.c2, .bool d'.opn, .slice r'.A3 d'.kills.length r'.c3, .int .i64 d'.top, .int .i64 d'.last, .int .i64 d'.fr, .int .i64 d'.to_] ∧ BxA wc (w.heap.size + 1 + 1) 32 dsZ ∧ Bx wc (w.heap.size + 3) 28 (.string (bs d.now.1)) (.int .i64 d.now.2) ∧ Hid (DsIn D B wc (w.heap.size + 4) r' d') ∧ Below w.heap.size w wc)
 case first =>
  refine wp_region_last (S := (fun w' => (w'.cell? ⟨w.heap.size, 0, none⟩ = some (.string (bs d.now.1)) ∧ w'.cell? ⟨w.heap.size, 1, none⟩ = some (.int .i64 d.now.2) ∧ w'.cell? ⟨w.heap.size, 2, none⟩ = some (.slice r.A1 d.back.length r.c1) ∧ w'.cell? ⟨w.heap.size, 3, none⟩ = some (.slice r.A2 d.forth.length r.c2) ∧ w'.cell? ⟨w.heap.size, 4, none⟩ = some (.bool d.opn) ∧ w'.cell? ⟨w.heap.size, 5, none⟩ = some (.slice r.A3 d.kills.length r.c3) ∧ w'.cell? ⟨w.heap.size, 6, none⟩ = some (.int .i64 d.top) ∧ w'.cell? ⟨w.heap.size, 7, none⟩ = some (.int .i64 0) ∧ w'.cell? ⟨w.heap.size, 8, none⟩ = some (.int .i64 d.fr) ∧ w'.cell? ⟨w.heap.size, 9, none⟩ = some (.int .i64 d.to_)) ∧ (w'.cell? ⟨(w.heap.size + 1), 0, none⟩ = some (.string (bs b.1)) ∧ w'.cell? ⟨(w.heap.size + 1), 1, none⟩ = some (.int .i64 b.2)))) 7 (by kernel_rfl) ⟨H0.out.cellsAll, HY.out.c0, HY.out.c1⟩ (fun hHeld => ?_)
  refine tkL 0 ?_
  refine tkL 1 ?_
  refine tkL 2 ?_
  refine tkL 3 ?_
  refine tkL 4 ?_
  refine rdL 5 fun K hK => ?_
  go_simp
  refine (HMk.out _).mono ?_
  rintro e w4 ⟨rfl, hb4⟩
  have hb4' : Below W3.heap.size W3 w4 := ⟨hb4.os, hb4.tape, hb4.output, hb4.size, hb4.block⟩
  have H04 := hid (H0.out.below hb4')
  have HY4 := hid (HY.out.below hb4')
  have HM4 := hid (HM.out.below hb4')
  have HK4 := hid (HK.out.below hb4')
  have HB4 := hid (HB3.out.trans (hb4'.mono HB3.out.size))
  have HL4 := hid hb4'.size
  refine hK.out _ _ ⟨H04.out.cellsAll, HY4.out.c0, HY4.out.c1⟩ (fun hHeld => ?_)
  clear hK K
  clear hb4 hb4'
  refine rdL 6 fun K hK => ?_
  go_simp
  have HW := hid (dwrite_calls w4 D r (⟨d.now, d.back, d.forth, d.opn, d.kills, d.top, 0, d.fr, d.to_⟩ : DS) B ((HD.out.below HB4.out).same rfl rfl rfl) ⟨HO.out.now, HO.out.back, HO.out.forth, HO.out.len, HO.out.kills, HO.out.small, HO.out.top⟩ (p, q) Hp.out false)
  refine HW.out.mono ?_
  rintro e w5 ⟨r', d', rfl, ht⟩
  have hbt : Below w4.heap.size w4 w5 := by obtain ⟨_, _, _, _, hb⟩ := ht; exact hb
  have h05 := H04.out.below hbt
  have k0 := h05.c 0 rfl
  have k1 := h05.c 1 rfl
  have k2 := h05.c 2 rfl
  have k3 := h05.c 3 rfl
  have k4 := h05.c 4 rfl
  have k5 := h05.c 5 rfl
  have k6 := h05.c 6 rfl
  have k7 := h05.c 7 rfl
  have k8 := h05.c 8 rfl
  have k9 := h05.c 9 rfl
  have u0 := h05.free 0
  have u1 := h05.free 1
  have u2 := h05.free 2
  have u3 := h05.free 3
  have u4 := h05.free 4
  have u5 := h05.free 5
  have u6 := h05.free 6
  have u7 := h05.free 7
  have u8 := h05.free 8
  have u9 := h05.free 9
  have H05 := hid h05
  have HY5 := hid (HY4.out.below hbt)
  have HM5 := hid (HM4.out.below hbt)
  have HK5 := hid (HK4.out.below hbt)
  have HT := hid ht
  have HlN : Hid (w.heap.size < w4.heap.size) := hid H04.out.lt
  have HBT := hid hbt
  refine hK.out _ _ ⟨H05.out.cellsAll, HY5.out.c0, HY5.out.c1⟩ (fun hHeld => ?_)
  clear hK K
  clear ht hbt h05 HW hHeld
  unfold dsV
  refine enL fun K hK => ?_
  go_simp
  refine hK.out _ _ ?_
  clear hK K
  go_wp2_with fail
  go_meet
  have ho5 : Only (fun i => i = w.heap.size) w5 (tenD w5 w.heap.size r' d') := ten_only w5 _ _ _ _ _ _ _ _ _ _ _
  have hb45 := HB4.out.trans (HBT.out.mono HB4.out.size)
  have belten5 : Below w.heap.size w (tenD w5 w.heap.size r' d') := hb45.trans (ho5.below hb45.size (fun i (hi : i = _) => by omega))
  exact ⟨r', d', rfl, ten_box H05.out _ _ _ _ _ _ _ _ _ _, HM5.out.keep ho5 (fun e => by omega), bx_keep7 HK5.out ho5 (fun e => by omega), hid (dsin_of HD.out HT.out (by omega) (by have := HL4.out; have := Hs3.out; omega) (by have := HL4.out; have := Hs3.out; omega) _ _ _ _ _ _ _ _ _ _), belten5⟩
 case rest =>
  obtain ⟨r', d', rfl, h0, hm, hk, ht, hbw⟩ := hcut
  obtain ⟨q7, hq7⟩ := ncmp7 d'.now d.now
  have H0 := hid h0
  have HK := hid hk
  have HM5 := hid hm
  have hmd := hm
  have HX := hid hmd
  have HBw := hid hbw
  clear HM HMk HY
  have e0 := hmd.c 0 rfl
  have e1 := hmd.c 1 rfl
  have e2 := hmd.c 2 rfl
  have e3 := hmd.c 3 rfl
  have e4 := hmd.c 4 rfl
  have e5 := hmd.c 5 rfl
  have e6 := hmd.c 6 rfl
  have e7 := hmd.c 7 rfl
  have e8 := hmd.c 8 rfl
  have e9 := hmd.c 9 rfl
  have f0 := hmd.free 0
  have f1 := hmd.free 1
  have f2 := hmd.free 2
  have f3 := hmd.free 3
  have f4 := hmd.free 4
  have f5 := hmd.free 5
  have f6 := hmd.free 6
  have f7 := hmd.free 7
  have f8 := hmd.free 8
  have f9 := hmd.free 9
  clear h0 hk hm hmd hsz hbw
  go_wp2_with fail
  refine wp_region_last (S := (fun w' => (w'.cell? ⟨w.heap.size, 0, none⟩ = some (.string (bs d'.now.1)) ∧ w'.cell? ⟨w.heap.size, 1, none⟩ = some (.int .i64 d'.now.2) ∧ w'.cell? ⟨w.heap.size, 2, none⟩ = some (.slice r'.A1 d'.back.length r'.c1) ∧ w'.cell? ⟨w.heap.size, 3, none⟩ = some (.slice r'.A2 d'.forth.length r'.c2) ∧ w'.cell? ⟨w.heap.size, 4, none⟩ = some (.bool d'.opn) ∧ w'.cell? ⟨w.heap.size, 5, none⟩ = some (.slice r'.A3 d'.kills.length r'.c3) ∧ w'.cell? ⟨w.heap.size, 6, none⟩ = some (.int .i64 d'.top) ∧ w'.cell? ⟨w.heap.size, 7, none⟩ = some (.int .i64 d'.last) ∧ w'.cell? ⟨w.heap.size, 8, none⟩ = some (.int .i64 d'.fr) ∧ w'.cell? ⟨w.heap.size, 9, none⟩ = some (.int .i64 d'.to_)) ∧ (w'.cell? ⟨(w.heap.size + 3), 0, none⟩ = some (.string (bs d.now.1)) ∧ w'.cell? ⟨(w.heap.size + 3), 1, none⟩ = some (.int .i64 d.now.2)))) 6 (by kernel_rfl) ⟨H0.out.cellsAll, HK.out.c0, HK.out.c1⟩ (fun hHeld => ?_)
  refine tkL 0 ?_
  refine tkL 1 ?_
  refine tkL 2 ?_
  refine tkL 3 ?_
  refine tkL 4 ?_
  refine rdL 5 fun K hK => ?_
  go_simp
  have ho6 : Only (fun i => i = (w.heap.size + 1 + 1)) wc (tenD wc (w.heap.size + 1 + 1) r' d').drew := (ten_only wc _ _ _ _ _ _ _ _ _ _ _).drew
  have H06 := hid (H0.out.keep ho6 (fun e => by omega))
  have HK6 := hid (bx_keep7 HK.out ho6 (fun e => by omega))
  have HXF : Hid (BxA (tenD wc (w.heap.size + 1 + 1) r' d').drew (w.heap.size + 1 + 1) 32 [.string (bs d'.now.1), .int .i64 d'.now.2, .slice r'.A1 d'.back.length r'.c1, .slice r'.A2 d'.forth.length r'.c2, .bool d'.opn, .slice r'.A3 d'.kills.length r'.c3, .int .i64 d'.top, .int .i64 d'.last, .int .i64 d'.fr, .int .i64 d'.to_]) := hid ((ten_box HX.out _ _ _ _ _ _ _ _ _ _).below (Below.refl _ _).drew)
  have HTF : Hid (DsTo w D B (tenD wc (w.heap.size + 1 + 1) r' d').drew r' d') := hid (dsin_fin HD.out ht.out HBw.out (by omega) (by omega) _ _ _ _ _ _ _ _ _ _)
  refine hK.out _ (tenD wc (w.heap.size + 1 + 1) r' d').drew ⟨H06.out.cellsAll, HK6.out.c0, HK6.out.c1⟩ (fun hHeld => ?_)
  clear hK K ho6 HX HBw ht H0 HK
  clear e0 e1 e2 e3 e4 e5 e6 e7 e8 e9 f0 f1 f2 f3 f4 f5 f6 f7 f8 f9
  generalize (tenD wc (w.heap.size + 1 + 1) r' d').drew = W6 at *
  refine enL fun K hK => ?_
  go_simp
  refine hK.out _ _ ?_
  clear hK K
  go_wp2_with fail
  refine bodyPost_ret (results_bx10' rfl _ _ ((w.heap.size + 1 + 1)) _ _ _ _ _ _ _ _ _ _ _ 32 rfl rfl HXF.out Tryz.underlying32 (szS _)) rfl ?_
  exact ⟨r', d', q7, rfl, HTF.out⟩
end
end Go.Proofs.YtoaponaljkhlfaaGreatDoor
