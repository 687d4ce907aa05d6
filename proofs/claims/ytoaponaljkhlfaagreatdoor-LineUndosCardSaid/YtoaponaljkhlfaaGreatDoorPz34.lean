/-
  Layer 7 and what it stands on, part 34 (DocA DocKR DocQ).
-/
import Derived.Test.YtoaponaljkhlfaaGreatDoorPz33
import Derived.Deep.Cut
import Derived.Laws.AppendOwnNone
import Derived.Lib.Strings
namespace Go.Proofs.YtoaponaljkhlfaaGreatDoor
section
open Go Go.RowKit
open Go.Lib (hid)
set_option maxRecDepth 100000
theorem dsin_fin2 {w wc : World} {D : Nat → Prop} {B M Z : Nat} {r0 r : DR} {d0 d : DS} (h : DsAt w D r0 d0) (ht : DsIn D B wc Z r d) (hb : Below w.heap.size w wc) (hM : w.heap.size ≤ M) (hM2 : M < Z) (v0 v1 v2 v3 v4 v5 v6 v7 v8 v9 : Value) (hwZ : w.heap.size ≤ Z := by omega) : DsTo w D B (ten wc M v0 v1 v2 v3 v4 v5 v6 v7 v8 v9) r d := by
 obtain ⟨D', a1, a2, a3⟩ := ht
 have ho := ten_only wc M v0 v1 v2 v3 v4 v5 v6 v7 v8 v9
 refine ⟨D', a1.keep ho (fun k hk (e : k = M) => ?_), a2, fun k hk => (a3 k hk).imp id (fun h => Nat.le_trans hwZ h), hb.trans (ho.below hb.size (fun i (hi : i = M) => by omega))⟩
 rcases a3 k hk with h1 | h1
 ·have := h.lt k h1; omega
 ·omega
set_option maxHeartbeats 8000000 in
theorem dset_calls (w : World) (D : Nat → Prop) (r : DR) (d : DS) (B : Nat) (h : DsAt w D r d) (hok : d.Ok B) (t : List UInt8) (ht : t.length ≤ 137438953472) :
  Calls Tryz.prog 28 #[dsV r d, .string (bs t)] w fun e w' => ∃ r' d', e = .returned (dsV r' d') ∧ DsTo w D B w' r' d' := by
 obtain ⟨W2, hW2, hB2, hs2, hb0, hb1⟩ := boxes7 w r d
 have H0 := hid hb0
 have HM := hid hb1
 have HB2 := hid hB2
 have HS2 := hid hs2
 have HD := hid h
 have HO := hid hok
 have HMk := hid (fun W => rmake_calls t 100000 ht W)
 have Hp := hid (mS_len t)
 clear hb0 hb1 hB2 hs2 h hok
 generalize mS t = p at *
 generalize (mA t 100000 : Int) = q at *
 unfold dsV
 go_enter Tryz.func28, Tryz.ntmps28
 go_upto_region 1 with fail
 go_cut [4] from 5 (fun s4 wc => ∃ r' d', s4 = .pointer (some ⟨(w.heap.size + 1), 0, none⟩) ∧ BxA wc w.heap.size 32 [.string (bs d'.now.1), .int .i64 d'.now.2, .slice r'.A1 d'.back.length r'.c1, .slice r'.A2 d'.forth.length r'.c2, .bool d'.opn, .slice r'.A3 d'.kills.length r'.c3, .int .i64 d'.top, .int .i64 d'.last, .int .i64 d'.fr, .int .i64 d'.to_] ∧ BxA wc (w.heap.size + 1) 32 dsZ ∧ Hid (DsIn D B wc (w.heap.size + 2) r' d') ∧ Below w.heap.size w wc)
 case first =>
  refine wp_region_held_drew (S := fun _ => True) (by kernel_rfl) trivial (fun hHeld => ?_)
  refine tkH 1 ?_
  refine wpAnyH_ready (rs := [0, 2]) (by kernel_rfl) (by simp) ?_
  refine AllReadyH.cons (o := ⟨some 6, _, _, _, _, _⟩) rfl (fun K hK => ?_) (AllReadyH.cons (o := ⟨some 8, _, _, _, _, _⟩) rfl (fun K hK => ?_) AllReadyH.nil)
  ·have h0d := H0.out
   have k0 := h0d.c 0 rfl
   have k1 := h0d.c 1 rfl
   have k2 := h0d.c 2 rfl
   have k3 := h0d.c 3 rfl
   have k4 := h0d.c 4 rfl
   have k5 := h0d.c 5 rfl
   have k6 := h0d.c 6 rfl
   have k7 := h0d.c 7 rfl
   have k8 := h0d.c 8 rfl
   have k9 := h0d.c 9 rfl
   (rw [if_pos (by kernel_rfl)])
   go_simp
   refine hK.out _ _ trivial (fun hHeld => ?_)
   clear hK K
   clear h0d
   clear k0 k1 k2 k3 k4 k5 k6 k7 k8 k9
   refine rdH 2 fun K hK => ?_
   go_simp
   refine (HMk.out _).mono ?_
   rintro e w4 ⟨rfl, hb4⟩
   have hb4' : Below W2.heap.size W2 w4 := ⟨hb4.os, hb4.tape, hb4.output, hb4.size, hb4.block⟩
   have h04 := H0.out.below hb4'
   have H04 := hid h04
   have HM4 := hid (HM.out.below hb4')
   have HB4 := hid (HB2.out.trans (hb4'.mono HB2.out.size))
   have HL4 := hid hb4'.size
   refine hK.out _ _ trivial (fun hHeld => ?_)
   clear hK K
   clear hb4 hb4' h04
   refine rdH 3 fun K hK => ?_
   go_simp
   refine (dchange_calls w4 D r d B (HD.out.below HB4.out) HO.out (p, q) (show p.length ≤ 137438953472 by have := Hp.out; omega)).mono ?_
   rintro e w5 ⟨r', d', q5, rfl, ht⟩
   have hbt : Below w4.heap.size w4 w5 := by obtain ⟨_, _, _, _, hb⟩ := ht; exact hb
   have h05 := H04.out.below hbt
   have k0 := h05.c 0 rfl
   have k1 := h05.c 1 rfl
   have k2 := h05.c 2 rfl
   have k3 := h05.c 3 rfl
   have k4 := h05.c 4 rfl
   have k5 := h05.c 5 rfl
   have k6 := h05.c 6 rfl
   have k7 := h05.c 7 rfl
   have k8 := h05.c 8 rfl
   have k9 := h05.c 9 rfl
   have u0 := h05.free 0
   have u1 := h05.free 1
   have u2 := h05.free 2
   have u3 := h05.free 3
   have u4 := h05.free 4
   have u5 := h05.free 5
   have u6 := h05.free 6
   have u7 := h05.free 7
   have u8 := h05.free 8
   have u9 := h05.free 9
   have H05 := hid h05
   have HM5 := hid (HM4.out.below hbt)
   have HT := hid ht
   have HBT := hid hbt
   refine hK.out _ _ trivial (fun hHeld => ?_)
   clear hK K
   clear ht hbt h05
   (try unfold dsV)
   refine tkH 4 ?_
   refine tkH 5 ?_
   refine tkH 6 ?_
   refine rdH 7 fun K hK => ?_
   go_simp
   refine hK.out _ _ trivial (fun hHeld => ?_)
   clear hK K
   refine wpAnyH_done (by kernel_rfl) ?_ _
   go_wp2_with fail
   go_meet
   have ho5 : Only (fun i => i = w.heap.size) w5 (tenD w5 w.heap.size r' d') := ten_only w5 _ _ _ _ _ _ _ _ _ _ _
   have hb45 := HB4.out.trans (HBT.out.mono HB4.out.size)
   have belten5 : Below w.heap.size w (tenD w5 w.heap.size r' d') := hb45.trans (ho5.below hb45.size (fun i (hi : i = _) => by omega))
   exact ⟨r', d', rfl, ten_box H05.out _ _ _ _ _ _ _ _ _ _, HM5.out.keep ho5 (fun e => by omega), hid (dsin_of HD.out HT.out (by omega) (by have := HL4.out; have := HS2.out; omega) (by have := HL4.out; have := HS2.out; omega) _ _ _ _ _ _ _ _ _ _), belten5⟩
  ·(rw [if_pos (by kernel_rfl)])
   go_simp
   refine (HMk.out _).mono ?_
   rintro e w4 ⟨rfl, hb4⟩
   have hb4' : Below W2.heap.size W2 w4 := ⟨hb4.os, hb4.tape, hb4.output, hb4.size, hb4.block⟩
   have h04 := H0.out.below hb4'
   have H04 := hid h04
   have HM4 := hid (HM.out.below hb4')
   have HB4 := hid (HB2.out.trans (hb4'.mono HB2.out.size))
   have HL4 := hid hb4'.size
   refine hK.out _ _ trivial (fun hHeld => ?_)
   clear hK K
   refine wpAnyH_ready (rs := [0]) (by kernel_rfl) (by simp) ?_
   refine AllReadyH.cons (o := ⟨some 6, _, _, _, _, _⟩) rfl (fun K hK => ?_) AllReadyH.nil
   have k0 := h04.c 0 rfl
   have k1 := h04.c 1 rfl
   have k2 := h04.c 2 rfl
   have k3 := h04.c 3 rfl
   have k4 := h04.c 4 rfl
   have k5 := h04.c 5 rfl
   have k6 := h04.c 6 rfl
   have k7 := h04.c 7 rfl
   have k8 := h04.c 8 rfl
   have k9 := h04.c 9 rfl
   (rw [if_pos (by kernel_rfl)])
   go_simp
   refine hK.out _ _ trivial (fun hHeld => ?_)
   clear hK K
   clear hb4 hb4' h04
   clear k0 k1 k2 k3 k4 k5 k6 k7 k8 k9
   refine rdH 3 fun K hK => ?_
   go_simp
   refine (dchange_calls w4 D r d B (HD.out.below HB4.out) HO.out (p, q) (show p.length ≤ 137438953472 by have := Hp.out; omega)).mono ?_
   rintro e w5 ⟨r', d', q5, rfl, ht⟩
   have hbt : Below w4.heap.size w4 w5 := by obtain ⟨_, _, _, _, hb⟩ := ht; exact hb
   have h05 := H04.out.below hbt
   have k0 := h05.c 0 rfl
   have k1 := h05.c 1 rfl
   have k2 := h05.c 2 rfl
   have k3 := h05.c 3 rfl
   have k4 := h05.c 4 rfl
   have k5 := h05.c 5 rfl
   have k6 := h05.c 6 rfl
   have k7 := h05.c 7 rfl
   have k8 := h05.c 8 rfl
   have k9 := h05.c 9 rfl
   have u0 := h05.free 0
   have u1 := h05.free 1
   have u2 := h05.free 2
   have u3 := h05.free 3
   have u4 := h05.free 4
   have u5 := h05.free 5
   have u6 := h05.free 6
   have u7 := h05.free 7
   have u8 := h05.free 8
   have u9 := h05.free 9
   have H05 := hid h05
   have HM5 := hid (HM4.out.below hbt)
   have HT := hid ht
   have HBT := hid hbt
   refine hK.out _ _ trivial (fun hHeld => ?_)
   clear hK K
   clear ht hbt h05
   (try unfold dsV)
   refine tkH 4 ?_
   refine tkH 5 ?_
   refine tkH 6 ?_
   refine rdH 7 fun K hK => ?_
   go_simp
   refine hK.out _ _ trivial (fun hHeld => ?_)
   clear hK K
   refine wpAnyH_done (by kernel_rfl) ?_ _
   go_wp2_with fail
   go_meet
   have ho5 : Only (fun i => i = w.heap.size) w5 (tenD w5 w.heap.size r' d') := ten_only w5 _ _ _ _ _ _ _ _ _ _ _
   have hb45 := HB4.out.trans (HBT.out.mono HB4.out.size)
   have belten5 : Below w.heap.size w (tenD w5 w.heap.size r' d') := hb45.trans (ho5.below hb45.size (fun i (hi : i = _) => by omega))
   exact ⟨r', d', rfl, ten_box H05.out _ _ _ _ _ _ _ _ _ _, HM5.out.keep ho5 (fun e => by omega), hid (dsin_of HD.out HT.out (by omega) (by have := HL4.out; have := HS2.out; omega) (by have := HL4.out; have := HS2.out; omega) _ _ _ _ _ _ _ _ _ _), belten5⟩
 case rest =>
  obtain ⟨r', d', rfl, h0, hm, ht, hbw⟩ := hcut
  have HX := hid hm
  have HBw := hid hbw
  clear HM HMk H0
  have c0 := h0.c 0 rfl
  have c1 := h0.c 1 rfl
  have c2 := h0.c 2 rfl
  have c3 := h0.c 3 rfl
  have c4 := h0.c 4 rfl
  have c5 := h0.c 5 rfl
  have c6 := h0.c 6 rfl
  have c7 := h0.c 7 rfl
  have c8 := h0.c 8 rfl
  have c9 := h0.c 9 rfl
  have e0 := hm.c 0 rfl
  have e1 := hm.c 1 rfl
  have e2 := hm.c 2 rfl
  have e3 := hm.c 3 rfl
  have e4 := hm.c 4 rfl
  have e5 := hm.c 5 rfl
  have e6 := hm.c 6 rfl
  have e7 := hm.c 7 rfl
  have e8 := hm.c 8 rfl
  have e9 := hm.c 9 rfl
  have f0 := hm.free 0
  have f1 := hm.free 1
  have f2 := hm.free 2
  have f3 := hm.free 3
  have f4 := hm.free 4
  have f5 := hm.free 5
  have f6 := hm.free 6
  have f7 := hm.free 7
  have f8 := hm.free 8
  have f9 := hm.free 9
  clear h0 hm hbw
  go_wp2_with fail
  refine bodyPost_ret (results_bx10 rfl _ _ ((w.heap.size + 1)) _ _ _ _ _ _ _ _ _ _ 32 rfl (ten_box HX.out _ _ _ _ _ _ _ _ _ _) Tryz.underlying32 (szS _)) rfl ?_
  exact ⟨r', d', rfl, dsin_fin2 HD.out ht.out HBw.out (by omega) (by omega) _ _ _ _ _ _ _ _ _ _⟩
set_option maxHeartbeats 8000000 in
theorem dadd_calls (w : World) (D : Nat → Prop) (r : DR) (d : DS) (B : Nat) (h : DsAt w D r d) (hok : d.Ok B) (t : List UInt8) (htl : t.length ≤ 100000) :
  Calls Tryz.prog 29 #[dsV r d, .string (bs t)] w fun e w' => ∃ r' d' q, e = .returned (.tuple #[dsV r' d', .bool q]) ∧ DsTo w D B w' r' d' := by
 obtain ⟨W2, hW2, hB2, hs2, hb0, hb1⟩ := boxes7 w r d
 obtain ⟨Wa, hWa⟩ : ∃ Wa, (W2.setCell ⟨w.heap.size, 7, none⟩ (.int .i64 0)).setCell ⟨w.heap.size, 4, none⟩ (.bool false) = Wa := ⟨_, rfl⟩
 have h0a : BxA Wa w.heap.size 32 [.string (bs d.now.1), .int .i64 d.now.2, .slice r.A1 d.back.length r.c1, .slice r.A2 d.forth.length r.c2, .bool false, .slice r.A3 d.kills.length r.c3, .int .i64 d.top, .int .i64 0, .int .i64 d.fr, .int .i64 d.to_] := by rw [← hWa]; exact (hb0.set 7 _).set 4 _
 have hma : BxA Wa (w.heap.size + 1) 32 dsZ := by rw [← hWa]; exact (hb1.other (by omega) _).other (by omega) _
 have hBa : Below w.heap.size w Wa := by rw [← hWa]; exact (hB2.setCell (p := ⟨w.heap.size, 7, none⟩) (Nat.le_refl _) _).setCell (p := ⟨w.heap.size, 4, none⟩) (Nat.le_refl _) _
 have hsa : Wa.heap.size = w.heap.size + 2 := by rw [← hWa]; simpa [World.setCell] using hs2
 obtain ⟨Wb, hWb⟩ : ∃ Wb, Wa.alloc (.cells #[.string (bs d.now.1), .int .i64 d.now.2] 28) = Wb := ⟨_, rfl⟩
 have hkb : Bx Wb Wa.heap.size 28 (.string (bs d.now.1)) (.int .i64 d.now.2) := by rw [← hWb]; exact Bx.new Wa _ _ _
 obtain ⟨W3, hW3⟩ : ∃ W3, Wb.setCell ⟨Wa.heap.size, 1, none⟩ (.int .i64 (d.now.1.length : Int)) = W3 := ⟨_, rfl⟩
 have h03 : BxA W3 w.heap.size 32 [.string (bs d.now.1), .int .i64 d.now.2, .slice r.A1 d.back.length r.c1, .slice r.A2 d.forth.length r.c2, .bool false, .slice r.A3 d.kills.length r.c3, .int .i64 d.top, .int .i64 0, .int .i64 d.fr, .int .i64 d.to_] := by rw [← hW3, ← hWb]; exact (h0a.alloc _).other (by omega) _
 have hm3 : BxA W3 (w.heap.size + 1) 32 dsZ := by rw [← hW3, ← hWb]; exact (hma.alloc _).other (by omega) _
 have hk3 : Bx W3 Wa.heap.size 28 (.string (bs d.now.1)) (.int .i64 (d.now.1.length : Int)) := by rw [← hW3]; exact hkb.set1 _
 have hB3 : Below w.heap.size w W3 := by rw [← hW3, ← hWb]; exact (hBa.alloc hBa.size _).setCell (p := ⟨Wa.heap.size, 1, none⟩) (by show w.heap.size ≤ Wa.heap.size; omega) _
 have k4 := hb0.c 4 rfl
 have k7 := hb0.c 7 rfl
 have u4 := hb0.free 4
 have u7 := hb0.free 7
 have a0 := h0a.c 0 rfl
 have a1 := h0a.c 1 rfl
 have b0 := hkb.c0
 have b1 := hkb.c1
 have v1 := hkb.f1
 have z0 := hk3.c0
 have z1 := hk3.c1
 have hszn := bs_size d.now.1
 have H0 := hid h03
 have HM := hid hm3
 have HB3 := hid hB3
 have HD := hid h
 have HO := hid hok
 have Hsa := hid hsa
 obtain ⟨p, q, is_, hp6, hI⟩ := rins_any (d.now.1, (d.now.1.length : Int)) hok.now (bs t) (by rw [bs_size]; omega)
 have HI := hid hI
 have Hp := hid hp6
 have HP := hid (fun W => rplain_calls t (by omega) W)
 have hpe := Classical.em (plainL t = [])
 clear hb0 hb1 hB2 hs2 h0a hma hBa hkb h03 hm3 hk3 hB3 h hok hI hp6
 generalize plainL t = pl at *
 clear hsa
 unfold dsV
 go_enter Tryz.func29, Tryz.ntmps29
 go_wp2_with fail
 refine (HI.out _).mono ?_
 rintro e w4 ⟨rfl, hb4⟩
 have hB4 : Below w.heap.size w w4 := HB3.out.trans (hb4.mono HB3.out.size)
 have hB5 : Below w.heap.size w (w4.alloc (.cells #[.string (bs p), .int .i64 q] 28)) := hB4.alloc hB4.size _
 have h05 := (H0.out.below hb4).alloc (.cells #[.string (bs p), .int .i64 q] 28)
 have hm5 := (HM.out.below hb4).alloc (.cells #[.string (bs p), .int .i64 q] 28)
 have hx5 := Bx.new w4 28 (.string (bs p)) (.int .i64 q)
 have HB5 := hid hB5
 have H05 := hid h05
 have HM5 := hid hm5
 have HX5 := hid hx5
 have HlM5 : Hid ((w.heap.size + 1) < (w4.alloc (.cells #[.string (bs p), .int .i64 q] 28)).heap.size) := hid hm5.lt
 clear hb4 hB4 hB5 hx5 HI
 clear k4 k7 u4 u7 a0 a1 b0 b1 v1 z0 z1
 cases is_ with
 | false =>
  have c0 := h05.c 0 rfl
  have c1 := h05.c 1 rfl
  have c2 := h05.c 2 rfl
  have c3 := h05.c 3 rfl
  have c4 := h05.c 4 rfl
  have c5 := h05.c 5 rfl
  have c6 := h05.c 6 rfl
  have c7 := h05.c 7 rfl
  have c8 := h05.c 8 rfl
  have c9 := h05.c 9 rfl
  have e0 := hm5.c 0 rfl
  have e1 := hm5.c 1 rfl
  have e2 := hm5.c 2 rfl
  have e3 := hm5.c 3 rfl
  have e4 := hm5.c 4 rfl
  have e5 := hm5.c 5 rfl
  have e6 := hm5.c 6 rfl
  have e7 := hm5.c 7 rfl
  have e8 := hm5.c 8 rfl
  have e9 := hm5.c 9 rfl
  have f0 := hm5.free 0
  have f1 := hm5.free 1
  have f2 := hm5.free 2
  have f3 := hm5.free 3
  have f4 := hm5.free 4
  have f5 := hm5.free 5
  have f6 := hm5.free 6
  have f7 := hm5.free 7
  have f8 := hm5.free 8
  have f9 := hm5.free 9
  have HX := hid hm5
  clear h05 hm5
  go_wp2_with fail
  refine bodyPost_ret (results_bx10' rfl _ _ ((w.heap.size + 1)) _ _ _ _ _ _ _ _ _ _ _ 32 rfl rfl (ten_box HX.out _ _ _ _ _ _ _ _ _ _) Tryz.underlying32 (szS _)) rfl ?_
  exact ⟨r, (⟨d.now, d.back, d.forth, false, d.kills, d.top, 0, d.fr, d.to_⟩ : DS), false, rfl, ds_fin (d := (⟨d.now, d.back, d.forth, false, d.kills, d.top, 0, d.fr, d.to_⟩ : DS)) HD.out HB5.out ⟨D, (HD.out.below HB5.out).same rfl rfl rfl, ⟨HO.out.now, HO.out.back, HO.out.forth, HO.out.len, HO.out.kills, HO.out.small, HO.out.top⟩, fun _ h => .inl h, Below.refl _ _⟩ (by omega) HlM5.out _ _ _ _ _ _ _ _ _ _⟩
 | true =>
  clear h05 hm5
  go_wp2_with fail
  refine (HP.out _).mono ?_
  rintro e w6 ⟨rfl, hb6⟩
  have hB6 := HB5.out.trans (hb6.mono HB5.out.size)
  have h05 := H05.out.below hb6
  have hm5 := HM5.out.below hb6
  have hx6 := HX5.out.below hb6
  have HB6 := hid hB6
  have HlM6 := hid (Nat.lt_of_lt_of_le HlM5.out hb6.size)
  clear hb6 hB6 HP
  rcases hpe with hpe | hpe
  ·subst hpe
   have c0 := h05.c 0 rfl
   have c1 := h05.c 1 rfl
   have c2 := h05.c 2 rfl
   have c3 := h05.c 3 rfl
   have c4 := h05.c 4 rfl
   have c5 := h05.c 5 rfl
   have c6 := h05.c 6 rfl
   have c7 := h05.c 7 rfl
   have c8 := h05.c 8 rfl
   have c9 := h05.c 9 rfl
   have e0 := hm5.c 0 rfl
   have e1 := hm5.c 1 rfl
   have e2 := hm5.c 2 rfl
   have e3 := hm5.c 3 rfl
   have e4 := hm5.c 4 rfl
   have e5 := hm5.c 5 rfl
   have e6 := hm5.c 6 rfl
   have e7 := hm5.c 7 rfl
   have e8 := hm5.c 8 rfl
   have e9 := hm5.c 9 rfl
   have f0 := hm5.free 0
   have f1 := hm5.free 1
   have f2 := hm5.free 2
   have f3 := hm5.free 3
   have f4 := hm5.free 4
   have f5 := hm5.free 5
   have f6 := hm5.free 6
   have f7 := hm5.free 7
   have f8 := hm5.free 8
   have f9 := hm5.free 9
   have HX := hid hm5
   clear h05 hm5
   go_wp2_with fail
   refine bodyPost_ret (results_bx10' rfl _ _ ((w.heap.size + 1)) _ _ _ _ _ _ _ _ _ _ _ 32 rfl rfl (ten_box HX.out _ _ _ _ _ _ _ _ _ _) Tryz.underlying32 (szS _)) rfl ?_
   exact ⟨r, (⟨d.now, d.back, d.forth, false, d.kills, d.top, 0, d.fr, d.to_⟩ : DS), false, rfl, ds_fin (d := (⟨d.now, d.back, d.forth, false, d.kills, d.top, 0, d.fr, d.to_⟩ : DS)) HD.out HB6.out ⟨D, (HD.out.below HB6.out).same rfl rfl rfl, ⟨HO.out.now, HO.out.back, HO.out.forth, HO.out.len, HO.out.kills, HO.out.small, HO.out.top⟩, fun _ h => .inl h, Below.refl _ _⟩ (by omega) HlM6.out _ _ _ _ _ _ _ _ _ _⟩
  ·have hne7 : pl.isEmpty = false := by cases pl with | nil => exact absurd rfl hpe | cons => rfl
   clear hpe
   have HW := hid (dwrite_calls w6 D r (⟨d.now, d.back, d.forth, false, d.kills, d.top, 0, d.fr, d.to_⟩ : DS) B ((HD.out.below HB6.out).same rfl rfl rfl) ⟨HO.out.now, HO.out.back, HO.out.forth, HO.out.len, HO.out.kills, HO.out.small, HO.out.top⟩ (p, q) Hp.out false)
   unfold dsV biV at HW
   have HM := hid hm5
   have c0 := h05.c 0 rfl
   have c1 := h05.c 1 rfl
   have c2 := h05.c 2 rfl
   have c3 := h05.c 3 rfl
   have c4 := h05.c 4 rfl
   have c5 := h05.c 5 rfl
   have c6 := h05.c 6 rfl
   have c7 := h05.c 7 rfl
   have c8 := h05.c 8 rfl
   have c9 := h05.c 9 rfl
   have y0 := hx6.c0
   have y1 := hx6.c1
   clear h05 hm5 hx6
   go_wp2_with fail
   refine HW.out.mono ?_
   rintro e w5 ⟨r', d', rfl, ht⟩
   have hm5 := HM.out.below (by obtain ⟨_, _, _, _, hb⟩ := ht; exact hb)
   have e0 := hm5.c 0 rfl
   have e1 := hm5.c 1 rfl
   have e2 := hm5.c 2 rfl
   have e3 := hm5.c 3 rfl
   have e4 := hm5.c 4 rfl
   have e5 := hm5.c 5 rfl
   have e6 := hm5.c 6 rfl
   have e7 := hm5.c 7 rfl
   have e8 := hm5.c 8 rfl
   have e9 := hm5.c 9 rfl
   have f0 := hm5.free 0
   have f1 := hm5.free 1
   have f2 := hm5.free 2
   have f3 := hm5.free 3
   have f4 := hm5.free 4
   have f5 := hm5.free 5
   have f6 := hm5.free 6
   have f7 := hm5.free 7
   have f8 := hm5.free 8
   have f9 := hm5.free 9
   have HX := hid hm5
   have HT := hid ht
   clear ht hm5
   (try unfold dsV)
   go_wp2_with fail
   refine bodyPost_ret (results_bx10' rfl _ _ ((w.heap.size + 1)) _ _ _ _ _ _ _ _ _ _ _ 32 rfl rfl (ten_box HX.out _ _ _ _ _ _ _ _ _ _) Tryz.underlying32 (szS _)) rfl ?_
   exact ⟨r', d', true, rfl, ds_fin HD.out HB6.out HT.out (by omega) HlM6.out _ _ _ _ _ _ _ _ _ _⟩
end
section
open Go Go.RowKit
set_option maxRecDepth 100000
theorem infoS7 : (Tryz.prog.info? 9).map (fun i => (i.zero, i.size, i.bytes)) = some (some (.string ⟨#[]⟩), 1, 16) := by kernel_rfl
theorem flat_str (ls : List ByteArray) : ls.flatMap strC = ls.map Value.string := by
 induction ls with
 | nil => rfl
 | cons x t ih => rw [List.flatMap_cons, ih]; rfl
theorem rdV_of_rowT {w : World} {D : Nat → Prop} {A : Option Addr} {ls : List ByteArray} (h : RowT strC w D A ls) : RdV Value.string w A ls := fun hn => by
 obtain ⟨g, o, e, _, hg, hc⟩ := h hn
 refine ⟨g, o, e, hg, fun i x hi => hc i _ ?_⟩
 rw [flat_str, List.getElem?_map, hi]; rfl
theorem rowD_of_own {w : World} {base : Nat} {A : Option Addr} {c n : Nat} {ls : List ByteArray} (hn : n = ls.length) (h : w.ownsRow base 9 1 (.slice A n c) n (ls.map Value.string)) : RowD strC w (fun k => base ≤ k ∧ k < w.heap.size) A c ls := by
 subst hn
 have h2 := h
 rw [← flat_str] at h2
 refine ⟨rowT_of_own h2 (fun g hg => h.lt g hg), ?_, ?_, ?_⟩
 all_goals
  rcases h.2 with ⟨hv, h0⟩ | ⟨g, cap, cur, hv, _, _, hnc, hcm, _⟩
  ·injection hv with h1 _ h3
   subst h1; subst h3
   first | omega | (unfold maxLen; omega) | exact fun _ => rfl
  ·injection hv with h1 _ h3
   subst h1; subst h3
   first | exact hnc | exact hcm | (intro e; cases e)
theorem kcopy (w : World) {D : Nat → Prop} {A : Option Addr} {c : Nat} {ls : List ByteArray} (h : RowD strC w D A c ls) (hl : ls.length ≤ 8) :
  ∃ A' c' w2, (Builtin.append_ #[30, 30] 30 #[.slice (some ⟨w.heap.size, 0, none⟩) 0 0, .slice A ls.length c]).run Tryz.prog (w.alloc (.cells #[] 9)) = .ok (.slice A' ls.length c') w2 ∧ Below w.heap.size w w2 ∧ w2.ownsRow w.heap.size 9 1 (.slice A' ls.length c') ls.length (ls.map Value.string) := by
 obtain ⟨i0, hi, hz0, hz1, hz2⟩ := info_parts infoS7
 have hB : Below w.heap.size w (w.alloc (.cells #[] 9)) := (Below.refl _ w).alloc (Nat.le_refl _) _
 have hown : (w.alloc (.cells #[] 9)).ownsRow w.heap.size 9 1 (.slice (some ⟨w.heap.size, 0, none⟩) 0 0) 0 [] := ⟨rfl, .inr ⟨w.heap.size, 0, #[], rfl, Nat.le_refl _, World.alloc_heap_new w _, by simp, by unfold maxLen; omega, by simp, by simp⟩⟩
 obtain ⟨v2, w2, hr, ho, hg, hat⟩ := run_append_V (P := Tryz.prog) (V := Value.string) (fun _ => rfl) (w.alloc (.cells #[] 9)) w.heap.size 30 30 9 i0 (.string ⟨#[]⟩) 16 Tryz.underlying30 hi hz0 hz1 hz2 rfl (by decide)
  (.slice (some ⟨w.heap.size, 0, none⟩) 0 0) 0 [] rfl hown A ls.length c ls rfl h.nil ((rdV_of_rowT h.row).below hB) (by simp; omega) (by simp)
 rw [Nat.zero_add, List.nil_append] at ho
 obtain ⟨A', c', rfl⟩ := own_form ho
 exact ⟨A', c', w2, hr, hB.grown hg hB.size (fun k e => by injection e with e; subst e; exact Nat.le_refl _), ho⟩
theorem kcons (w : World) (x : ByteArray) {base : Nat} {A : Option Addr} {c : Nat} {ls : List ByteArray} (h : w.ownsRow base 9 1 (.slice A ls.length c) ls.length (ls.map Value.string)) (hl : ls.length ≤ 8) :
  ∃ A' c' w2, (Builtin.append_ #[30, 30] 30 #[.slice (some ⟨w.heap.size, 0, none⟩) 1 1, .slice A ls.length c]).run Tryz.prog (w.alloc (.cells #[.string x] 9)) = .ok (.slice A' (1 + ls.length) c') w2 ∧ Below w.heap.size w w2 ∧ w2.ownsRow w.heap.size 9 1 (.slice A' (1 + ls.length) c') (1 + ls.length) ((x :: ls).map Value.string) := by
 obtain ⟨i0, hi, hz0, hz1, hz2⟩ := info_parts infoS7
 have hB : Below w.heap.size w (w.alloc (.cells #[.string x] 9)) := (Below.refl _ w).alloc (Nat.le_refl _) _
 obtain ⟨hrd, _, hlc, hcm, hA⟩ := rdV_of_own h
 obtain ⟨v2, w2, hr, ho, hg, hat⟩ := run_append_V (P := Tryz.prog) (V := Value.string) (fun _ => rfl) (w.alloc (.cells #[.string x] 9)) w.heap.size 30 30 9 i0 (.string ⟨#[]⟩) 16 Tryz.underlying30 hi hz0 hz1 hz2 rfl (by decide)
  (.slice (some ⟨w.heap.size, 0, none⟩) 1 1) 1 [x] rfl (own_oneV (V := Value.string) w w.heap.size 9 x (Nat.le_refl _)) A ls.length c ls rfl hA (hrd.below hB) (by simp; omega) (by simp)
 rw [show [x] ++ ls = x :: ls from rfl] at ho
 obtain ⟨A', c', rfl⟩ := own_form ho
 exact ⟨A', c', w2, hr, hB.grown hg hB.size (fun k e => by injection e with e; subst e; exact Nat.le_refl _), ho⟩
theorem kill_end {w W9 : World} {D D1 : Nat → Prop} {B Z M : Nat} {r0 r1 : DR} {d0 d1 : DS} (h : DsAt w D r0 d0) (hat : DsAt W9 D1 r1 d1) (hok : d1.Ok B) (h1 : ∀ k, D1 k → D k ∨ Z ≤ k) (hb : Below w.heap.size w W9) {A : Option Addr} {c : Nat} {ks : List ByteArray} (hk : RowD strC W9 (fun k => Z ≤ k ∧ k < W9.heap.size) A c ks) (hl : ks.length ≤ 8) (hs : ∀ x ∈ ks, x.size ≤ B + 600) (hne : 0 < ks.length) (hwZ : w.heap.size ≤ Z) (hM : w.heap.size ≤ M) (hMZ : M < Z) (v0 v1 v2 v3 v4 v5 v6 v7 v8 v9 : Value) :
  DsTo w D (B + 600) (ten W9 M v0 v1 v2 v3 v4 v5 v6 v7 v8 v9) ⟨r1.A1, r1.c1, r1.A2, r1.c2, A, c⟩ ⟨d1.now, d1.back, d1.forth, d1.opn, ks, 0, 1, d1.fr, d1.to_⟩ := by
 have ho := ten_only W9 M v0 v1 v2 v3 v4 v5 v6 v7 v8 v9
 have hn1 : ∀ k, D1 k → ¬ k = M := fun k hk e => by
  rcases h1 k hk with h2 | h2
  ·have := h.lt k h2; omega
  ·omega
 have k1 := hat.keep ho hn1
 refine ⟨fun k => D1 k ∨ (Z ≤ k ∧ k < W9.heap.size), ⟨fun k hk => ?_, k1.back.mono (fun k h => .inl h), k1.forth.mono (fun k h => .inl h), (hk.keep ho (fun k hk (e : k = M) => by omega)).mono (fun k h => .inr h)⟩, ⟨hok.now, hok.back, hok.forth, hok.len, hl, hs, .inr ⟨Int.le_refl 0, show (0 : Int) < ks.length by omega⟩⟩, fun k hk => ?_, hb.trans (ho.below hb.size (fun i (hi : i = M) => by omega))⟩
 ·rcases hk with h2 | h2
  ·exact k1.lt k h2
  ·exact Nat.lt_of_lt_of_le h2.2 ho.size
 ·rcases hk with h2 | h2
  ·exact (h1 k h2).imp id (fun h => Nat.le_trans hwZ h)
  ·exact .inr (Nat.le_trans hwZ h2.1)
theorem DS.Ok.more {d : DS} {B : Nat} (h : d.Ok B) : d.Ok (B + 600) := ⟨h.now, h.back, h.forth, h.len, h.kills, fun x hx => Nat.le_trans (h.small x hx) (Nat.le_add_right _ _), h.top⟩
theorem own_first7 {w : World} {base : Nat} {A : Option Addr} {n c : Nat} {x : ByteArray} {t : List ByteArray} (h : w.ownsRow base 9 1 (.slice A n c) n ((x :: t).map Value.string)) : ∃ g, A = some ⟨g, 0, none⟩ ∧ base ≤ g ∧ g < w.heap.size ∧ w.frozen? ⟨g, 0, none⟩ = false ∧ w.cell? ⟨g, 0, none⟩ = some (.string x) ∧ ∀ y, (w.setCell ⟨g, 0, none⟩ (.string y)).ownsRow base 9 1 (.slice (some ⟨g, 0, none⟩) n c) n ((y :: t).map Value.string) := by
 have hlt := h.lt
 have h1 := h.1
 rcases h.2 with ⟨hv, h0⟩ | ⟨g, cap, cur, hv, hb, hh, hr⟩
 ·rw [h0] at h1; simp at h1
 ·injection hv with e1 e2 e3
  subst e1; subst e3
  have hc := h.cells (g := g) rfl 0 (.string x) rfl
  rw [Addr.add_lit] at hc
  exact ⟨g, rfl, hb, (hlt g rfl).2, by simp [World.frozen?, hh], hc, fun y => own_set0 (V := Value.string) h y⟩
end
section
open Go Go.RowKit
open Go.Lib (hid)
set_option maxRecDepth 100000
set_option maxHeartbeats 8000000 in
theorem dpress_k1 (w : World) (D : Nat → Prop) (r : DR) (d : DS) (B : Nat) (h : DsAt w D r d) (hok : d.Ok B) (hB8 : B ≤ 1000000) (t : List UInt8) (ht0 : t.length ≤ 100000) :
  Calls Tryz.prog 26 #[dsV r d, .agg #[.int .i64 1, .string (bs t)]] w fun e w' => ∃ r' d' q, e = .returned (.tuple #[dsV r' d', .bool q]) ∧ DsTo w D (B + 600) w' r' d' := by
 obtain ⟨W2, hW2, hB2, hs2, hb0, hb1, hb2⟩ := boxes7k w r d 1 (bs t)
 have h0x := hb0.alloc (.cells #[.string (bs d.now.1), .int .i64 d.now.2] 28)
 have hyx := hb1.alloc (.cells #[.string (bs d.now.1), .int .i64 d.now.2] 28)
 obtain ⟨W4, hW4⟩ : ∃ W4, (W2.alloc (.cells #[.string (bs d.now.1), .int .i64 d.now.2] 28)).setCell ⟨w.heap.size, 7, none⟩ (.int .i64 0) = W4 := ⟨_, rfl⟩
 have h04 : BxA W4 w.heap.size 32 [.string (bs d.now.1), .int .i64 d.now.2, .slice r.A1 d.back.length r.c1, .slice r.A2 d.forth.length r.c2, .bool d.opn, .slice r.A3 d.kills.length r.c3, .int .i64 d.top, .int .i64 0, .int .i64 d.fr, .int .i64 d.to_] := by rw [← hW4]; exact h0x.set 7 _
 have hy4 : Bx W4 (w.heap.size + 1) 34 (.int .i64 1) (.string (bs t)) := by rw [← hW4]; exact hyx.other (by omega) _
 have hm4 : BxA W4 (w.heap.size + 1 + 1) 32 dsZ := by rw [← hW4]; exact (hb2.alloc _).other (by omega) _
 have hk4 : Bx W4 W2.heap.size 28 (.string (bs d.now.1)) (.int .i64 d.now.2) := by rw [← hW4]; exact (Bx.new W2 _ _ _).other (by omega) _
 have hB4 : Below w.heap.size w W4 := by rw [← hW4]; exact (hB2.alloc hB2.size _).setCell (p := ⟨w.heap.size, 7, none⟩) (Nat.le_refl _) _
 have hs4 : w.heap.size + 3 ≤ W4.heap.size := by rw [← hW4]; simp [World.setCell]; omega
 have hszn := bs_size d.now.1
 have hnow := hok.now
 have _ := hB8
 have _ := ht0
 have k0 := hb0.c 0 rfl
 have k1 := hb0.c 1 rfl
 have k7 := hb0.c 7 rfl
 have x7 := h0x.c 7 rfl
 have u7 := h0x.free 7
 have y0 := hyx.c0
 have z0 := hy4.c0
 have z1 := hy4.c1
 have b0 := hk4.c0
 have b1 := hk4.c1
 have c0 := h04.c 0 rfl
 have c1 := h04.c 1 rfl
 have c2 := h04.c 2 rfl
 have c3 := h04.c 3 rfl
 have c4 := h04.c 4 rfl
 have c5 := h04.c 5 rfl
 have c6 := h04.c 6 rfl
 have c7 := h04.c 7 rfl
 have c8 := h04.c 8 rfl
 have c9 := h04.c 9 rfl
 have H04 := hid h04
 have HM4 := hid hm4
 have HK4 := hid hk4
 have HY4 := hid hy4
 have HB4 := hid hB4
 have HL4 := hid hs4
 have HD := hid h
 have HO := hid hok
 have HD4 := hid ((h.below hB4).same (d' := (⟨d.now, d.back, d.forth, d.opn, d.kills, d.top, 0, d.fr, d.to_⟩ : DS)) rfl rfl rfl)
 clear hb0 hb1 hb2 hB2 h0x hyx h04 hm4 hk4 hy4 hB4 hs2 hs4 h hok
 unfold dsV
 go_enter Tryz.func26, Tryz.ntmps26
 have HC := hid (dins_calls W4 D r (⟨d.now, d.back, d.forth, d.opn, d.kills, d.top, 0, d.fr, d.to_⟩ : DS) B HD4.out ⟨HO.out.now, HO.out.back, HO.out.forth, HO.out.len, HO.out.kills, HO.out.small, HO.out.top⟩ 1 t ht0)
 (try unfold dsV at HC)
 go_wp2_with fail
 refine HC.out.mono ?_
 rintro e w5 ⟨r1, d1, rfl, ht⟩
 clear c0 c1 c2 c3 c4 c5 c6 c7 c8 c9
 obtain ⟨D1, a1, a2, a3, a4⟩ := ht
 have h05 := H04.out.below a4
 have hm5 := HM4.out.below a4
 have hlc := HL4.out
 have k0 := h05.c 0 rfl
 have k1 := h05.c 1 rfl
 have k2 := h05.c 2 rfl
 have k3 := h05.c 3 rfl
 have k4 := h05.c 4 rfl
 have k5 := h05.c 5 rfl
 have k6 := h05.c 6 rfl
 have k7 := h05.c 7 rfl
 have k8 := h05.c 8 rfl
 have k9 := h05.c 9 rfl
 have u0 := h05.free 0
 have u1 := h05.free 1
 have u2 := h05.free 2
 have u3 := h05.free 3
 have u4 := h05.free 4
 have u5 := h05.free 5
 have u6 := h05.free 6
 have u7 := h05.free 7
 have u8 := h05.free 8
 have u9 := h05.free 9
 obtain ⟨W6, hW6⟩ : ∃ W6, ((((((((((w5.setCell ⟨w.heap.size, 0, none⟩ (.string (bs d1.now.1))).setCell ⟨w.heap.size, 1, none⟩ (.int .i64 d1.now.2)).setCell ⟨w.heap.size, 2, none⟩ (.slice r1.A1 d1.back.length r1.c1)).setCell ⟨w.heap.size, 3, none⟩ (.slice r1.A2 d1.forth.length r1.c2)).setCell ⟨w.heap.size, 4, none⟩ (.bool d1.opn)).setCell ⟨w.heap.size, 5, none⟩ (.slice r1.A3 d1.kills.length r1.c3)).setCell ⟨w.heap.size, 6, none⟩ (.int .i64 d1.top)).setCell ⟨w.heap.size, 7, none⟩ (.int .i64 d1.last)).setCell ⟨w.heap.size, 8, none⟩ (.int .i64 d1.fr)).setCell ⟨w.heap.size, 9, none⟩ (.int .i64 d1.to_)) = W6 := ⟨_, rfl⟩
 have ht6 := ten_boxD h05 r1 d1
 have ho6 := ten_onlyD w5 w.heap.size r1 d1
 have h06 : BxA W6 w.heap.size 32 (dsK r1 d1) := by rw [← hW6]; exact ht6
 have ho7 : Only (fun i => i = w.heap.size) w5 W6 := by rw [← hW6]; exact ho6
 have hm6 : BxA W6 (w.heap.size + 1 + 1) 32 dsZ := hm5.keep ho7 (fun e => by omega)
 have hB5 := HB4.out.trans (a4.mono HB4.out.size)
 have hB6 : Below w.heap.size w W6 := hB5.trans (ho7.below hB5.size (fun i (hi : i = _) => by omega))
 have hin : DsIn D (B + 600) W6 (w.heap.size + 3) r1 d1 := ⟨D1, a1.keep ho7 (fun k hk (e : k = _) => (a3 k hk).elim (fun h1 => by have := HD.out.lt k h1; omega) (fun h1 => by omega)), a2.more, fun k hk => (a3 k hk).imp id (fun h => by omega)⟩
 have HX := hid hm6
 have HF : Hid (DsTo w D (B + 600) (tenD W6 (w.heap.size + 1 + 1) r1 d1) r1 d1) := hid (dsin_fin2 HD.out hin hB6 (by omega) (by omega) (.string (bs d1.now.1)) (.int .i64 d1.now.2) (.slice r1.A1 d1.back.length r1.c1) (.slice r1.A2 d1.forth.length r1.c2) (.bool d1.opn) (.slice r1.A3 d1.kills.length r1.c3) (.int .i64 d1.top) (.int .i64 d1.last) (.int .i64 d1.fr) (.int .i64 d1.to_))
 have H06 := hid h06
 have c0 := h06.c 0 rfl
 have c1 := h06.c 1 rfl
 have c2 := h06.c 2 rfl
 have c3 := h06.c 3 rfl
 have c4 := h06.c 4 rfl
 have c5 := h06.c 5 rfl
 have c6 := h06.c 6 rfl
 have c7 := h06.c 7 rfl
 have c8 := h06.c 8 rfl
 have c9 := h06.c 9 rfl
 have e0 := hm6.c 0 rfl
 have e1 := hm6.c 1 rfl
 have e2 := hm6.c 2 rfl
 have e3 := hm6.c 3 rfl
 have e4 := hm6.c 4 rfl
 have e5 := hm6.c 5 rfl
 have e6 := hm6.c 6 rfl
 have e7 := hm6.c 7 rfl
 have e8 := hm6.c 8 rfl
 have e9 := hm6.c 9 rfl
 have f0 := hm6.free 0
 have f1 := hm6.free 1
 have f2 := hm6.free 2
 have f3 := hm6.free 3
 have f4 := hm6.free 4
 have f5 := hm6.free 5
 have f6 := hm6.free 6
 have f7 := hm6.free 7
 have f8 := hm6.free 8
 have f9 := hm6.free 9
 clear a1 a2 a3 a4 h05 hm5 ht6 ho6 ho7 hB5 hB6 hin h06 hm6 hlc
 (try unfold dsV)
 clear HC
 go_wp2_with fail
 refine bodyPost_ret (results_bx10' rfl _ _ ((w.heap.size + 1 + 1)) _ _ _ _ _ _ _ _ _ _ _ 32 rfl rfl (ten_box HX.out _ _ _ _ _ _ _ _ _ _) Tryz.underlying32 (szS _)) rfl ?_
 exact ⟨r1, d1, true, rfl, HF.out⟩
set_option maxHeartbeats 8000000 in
theorem dpress_k26 (w : World) (D : Nat → Prop) (r : DR) (d : DS) (B : Nat) (h : DsAt w D r d) (hok : d.Ok B) (hB8 : B ≤ 1000000) (t : List UInt8) (ht0 : t.length ≤ 100000) :
  Calls Tryz.prog 26 #[dsV r d, .agg #[.int .i64 26, .string (bs t)]] w fun e w' => ∃ r' d' q, e = .returned (.tuple #[dsV r' d', .bool q]) ∧ DsTo w D (B + 600) w' r' d' := by
 obtain ⟨W2, hW2, hB2, hs2, hb0, hb1, hb2⟩ := boxes7k w r d 26 (bs t)
 have h0x := hb0.alloc (.cells #[.string (bs d.now.1), .int .i64 d.now.2] 28)
 have hyx := hb1.alloc (.cells #[.string (bs d.now.1), .int .i64 d.now.2] 28)
 obtain ⟨W4, hW4⟩ : ∃ W4, (W2.alloc (.cells #[.string (bs d.now.1), .int .i64 d.now.2] 28)).setCell ⟨w.heap.size, 7, none⟩ (.int .i64 0) = W4 := ⟨_, rfl⟩
 have h04 : BxA W4 w.heap.size 32 [.string (bs d.now.1), .int .i64 d.now.2, .slice r.A1 d.back.length r.c1, .slice r.A2 d.forth.length r.c2, .bool d.opn, .slice r.A3 d.kills.length r.c3, .int .i64 d.top, .int .i64 0, .int .i64 d.fr, .int .i64 d.to_] := by rw [← hW4]; exact h0x.set 7 _
 have hy4 : Bx W4 (w.heap.size + 1) 34 (.int .i64 26) (.string (bs t)) := by rw [← hW4]; exact hyx.other (by omega) _
 have hm4 : BxA W4 (w.heap.size + 1 + 1) 32 dsZ := by rw [← hW4]; exact (hb2.alloc _).other (by omega) _
 have hk4 : Bx W4 W2.heap.size 28 (.string (bs d.now.1)) (.int .i64 d.now.2) := by rw [← hW4]; exact (Bx.new W2 _ _ _).other (by omega) _
 have hB4 : Below w.heap.size w W4 := by rw [← hW4]; exact (hB2.alloc hB2.size _).setCell (p := ⟨w.heap.size, 7, none⟩) (Nat.le_refl _) _
 have hs4 : w.heap.size + 3 ≤ W4.heap.size := by rw [← hW4]; simp [World.setCell]; omega
 have hszn := bs_size d.now.1
 have hnow := hok.now
 have _ := hB8
 have _ := ht0
 have k0 := hb0.c 0 rfl
 have k1 := hb0.c 1 rfl
 have k7 := hb0.c 7 rfl
 have x7 := h0x.c 7 rfl
 have u7 := h0x.free 7
 have y0 := hyx.c0
 have z0 := hy4.c0
 have z1 := hy4.c1
 have b0 := hk4.c0
 have b1 := hk4.c1
 have c0 := h04.c 0 rfl
 have c1 := h04.c 1 rfl
 have c2 := h04.c 2 rfl
 have c3 := h04.c 3 rfl
 have c4 := h04.c 4 rfl
 have c5 := h04.c 5 rfl
 have c6 := h04.c 6 rfl
 have c7 := h04.c 7 rfl
 have c8 := h04.c 8 rfl
 have c9 := h04.c 9 rfl
 have H04 := hid h04
 have HM4 := hid hm4
 have HK4 := hid hk4
 have HY4 := hid hy4
 have HB4 := hid hB4
 have HL4 := hid hs4
 have HD := hid h
 have HO := hid hok
 have HD4 := hid ((h.below hB4).same (d' := (⟨d.now, d.back, d.forth, d.opn, d.kills, d.top, 0, d.fr, d.to_⟩ : DS)) rfl rfl rfl)
 clear hb0 hb1 hb2 hB2 h0x hyx h04 hm4 hk4 hy4 hB4 hs2 hs4 h hok
 unfold dsV
 go_enter Tryz.func26, Tryz.ntmps26
 have HC := hid (dins_calls W4 D r (⟨d.now, d.back, d.forth, d.opn, d.kills, d.top, 0, d.fr, d.to_⟩ : DS) B HD4.out ⟨HO.out.now, HO.out.back, HO.out.forth, HO.out.len, HO.out.kills, HO.out.small, HO.out.top⟩ 26 t ht0)
 (try unfold dsV at HC)
 go_wp2_with fail
 refine HC.out.mono ?_
 rintro e w5 ⟨r1, d1, rfl, ht⟩
 clear c0 c1 c2 c3 c4 c5 c6 c7 c8 c9
 obtain ⟨D1, a1, a2, a3, a4⟩ := ht
 have h05 := H04.out.below a4
 have hm5 := HM4.out.below a4
 have hlc := HL4.out
 have k0 := h05.c 0 rfl
 have k1 := h05.c 1 rfl
 have k2 := h05.c 2 rfl
 have k3 := h05.c 3 rfl
 have k4 := h05.c 4 rfl
 have k5 := h05.c 5 rfl
 have k6 := h05.c 6 rfl
 have k7 := h05.c 7 rfl
 have k8 := h05.c 8 rfl
 have k9 := h05.c 9 rfl
 have u0 := h05.free 0
 have u1 := h05.free 1
 have u2 := h05.free 2
 have u3 := h05.free 3
 have u4 := h05.free 4
 have u5 := h05.free 5
 have u6 := h05.free 6
 have u7 := h05.free 7
 have u8 := h05.free 8
 have u9 := h05.free 9
 obtain ⟨W6, hW6⟩ : ∃ W6, ((((((((((w5.setCell ⟨w.heap.size, 0, none⟩ (.string (bs d1.now.1))).setCell ⟨w.heap.size, 1, none⟩ (.int .i64 d1.now.2)).setCell ⟨w.heap.size, 2, none⟩ (.slice r1.A1 d1.back.length r1.c1)).setCell ⟨w.heap.size, 3, none⟩ (.slice r1.A2 d1.forth.length r1.c2)).setCell ⟨w.heap.size, 4, none⟩ (.bool d1.opn)).setCell ⟨w.heap.size, 5, none⟩ (.slice r1.A3 d1.kills.length r1.c3)).setCell ⟨w.heap.size, 6, none⟩ (.int .i64 d1.top)).setCell ⟨w.heap.size, 7, none⟩ (.int .i64 d1.last)).setCell ⟨w.heap.size, 8, none⟩ (.int .i64 d1.fr)).setCell ⟨w.heap.size, 9, none⟩ (.int .i64 d1.to_)) = W6 := ⟨_, rfl⟩
 have ht6 := ten_boxD h05 r1 d1
 have ho6 := ten_onlyD w5 w.heap.size r1 d1
 have h06 : BxA W6 w.heap.size 32 (dsK r1 d1) := by rw [← hW6]; exact ht6
 have ho7 : Only (fun i => i = w.heap.size) w5 W6 := by rw [← hW6]; exact ho6
 have hm6 : BxA W6 (w.heap.size + 1 + 1) 32 dsZ := hm5.keep ho7 (fun e => by omega)
 have hB5 := HB4.out.trans (a4.mono HB4.out.size)
 have hB6 : Below w.heap.size w W6 := hB5.trans (ho7.below hB5.size (fun i (hi : i = _) => by omega))
 have hin : DsIn D (B + 600) W6 (w.heap.size + 3) r1 d1 := ⟨D1, a1.keep ho7 (fun k hk (e : k = _) => (a3 k hk).elim (fun h1 => by have := HD.out.lt k h1; omega) (fun h1 => by omega)), a2.more, fun k hk => (a3 k hk).imp id (fun h => by omega)⟩
 have HX := hid hm6
 have HF : Hid (DsTo w D (B + 600) (tenD W6 (w.heap.size + 1 + 1) r1 d1) r1 d1) := hid (dsin_fin2 HD.out hin hB6 (by omega) (by omega) (.string (bs d1.now.1)) (.int .i64 d1.now.2) (.slice r1.A1 d1.back.length r1.c1) (.slice r1.A2 d1.forth.length r1.c2) (.bool d1.opn) (.slice r1.A3 d1.kills.length r1.c3) (.int .i64 d1.top) (.int .i64 d1.last) (.int .i64 d1.fr) (.int .i64 d1.to_))
 have H06 := hid h06
 have c0 := h06.c 0 rfl
 have c1 := h06.c 1 rfl
 have c2 := h06.c 2 rfl
 have c3 := h06.c 3 rfl
 have c4 := h06.c 4 rfl
 have c5 := h06.c 5 rfl
 have c6 := h06.c 6 rfl
 have c7 := h06.c 7 rfl
 have c8 := h06.c 8 rfl
 have c9 := h06.c 9 rfl
 have e0 := hm6.c 0 rfl
 have e1 := hm6.c 1 rfl
 have e2 := hm6.c 2 rfl
 have e3 := hm6.c 3 rfl
 have e4 := hm6.c 4 rfl
 have e5 := hm6.c 5 rfl
 have e6 := hm6.c 6 rfl
 have e7 := hm6.c 7 rfl
 have e8 := hm6.c 8 rfl
 have e9 := hm6.c 9 rfl
 have f0 := hm6.free 0
 have f1 := hm6.free 1
 have f2 := hm6.free 2
 have f3 := hm6.free 3
 have f4 := hm6.free 4
 have f5 := hm6.free 5
 have f6 := hm6.free 6
 have f7 := hm6.free 7
 have f8 := hm6.free 8
 have f9 := hm6.free 9
 clear a1 a2 a3 a4 h05 hm5 ht6 ho6 ho7 hB5 hB6 hin h06 hm6 hlc
 (try unfold dsV)
 clear HC
 go_wp2_with fail
 refine bodyPost_ret (results_bx10' rfl _ _ ((w.heap.size + 1 + 1)) _ _ _ _ _ _ _ _ _ _ _ 32 rfl rfl (ten_box HX.out _ _ _ _ _ _ _ _ _ _) Tryz.underlying32 (szS _)) rfl ?_
 exact ⟨r1, d1, true, rfl, HF.out⟩
set_option maxHeartbeats 8000000 in
theorem dpress_k7 (w : World) (D : Nat → Prop) (r : DR) (d : DS) (B : Nat) (h : DsAt w D r d) (hok : d.Ok B) (hB8 : B ≤ 1000000) (t : List UInt8) (ht0 : t.length ≤ 100000) :
  Calls Tryz.prog 26 #[dsV r d, .agg #[.int .i64 7, .string (bs t)]] w fun e w' => ∃ r' d' q, e = .returned (.tuple #[dsV r' d', .bool q]) ∧ DsTo w D (B + 600) w' r' d' := by
 obtain ⟨W2, hW2, hB2, hs2, hb0, hb1, hb2⟩ := boxes7k w r d 7 (bs t)
 have h0x := hb0.alloc (.cells #[.string (bs d.now.1), .int .i64 d.now.2] 28)
 have hyx := hb1.alloc (.cells #[.string (bs d.now.1), .int .i64 d.now.2] 28)
 obtain ⟨W4, hW4⟩ : ∃ W4, (W2.alloc (.cells #[.string (bs d.now.1), .int .i64 d.now.2] 28)).setCell ⟨w.heap.size, 7, none⟩ (.int .i64 0) = W4 := ⟨_, rfl⟩
 have h04 : BxA W4 w.heap.size 32 [.string (bs d.now.1), .int .i64 d.now.2, .slice r.A1 d.back.length r.c1, .slice r.A2 d.forth.length r.c2, .bool d.opn, .slice r.A3 d.kills.length r.c3, .int .i64 d.top, .int .i64 0, .int .i64 d.fr, .int .i64 d.to_] := by rw [← hW4]; exact h0x.set 7 _
 have hy4 : Bx W4 (w.heap.size + 1) 34 (.int .i64 7) (.string (bs t)) := by rw [← hW4]; exact hyx.other (by omega) _
 have hm4 : BxA W4 (w.heap.size + 1 + 1) 32 dsZ := by rw [← hW4]; exact (hb2.alloc _).other (by omega) _
 have hk4 : Bx W4 W2.heap.size 28 (.string (bs d.now.1)) (.int .i64 d.now.2) := by rw [← hW4]; exact (Bx.new W2 _ _ _).other (by omega) _
 have hB4 : Below w.heap.size w W4 := by rw [← hW4]; exact (hB2.alloc hB2.size _).setCell (p := ⟨w.heap.size, 7, none⟩) (Nat.le_refl _) _
 have hs4 : w.heap.size + 3 ≤ W4.heap.size := by rw [← hW4]; simp [World.setCell]; omega
 have hszn := bs_size d.now.1
 have hnow := hok.now
 have _ := hB8
 have _ := ht0
 have k0 := hb0.c 0 rfl
 have k1 := hb0.c 1 rfl
 have k7 := hb0.c 7 rfl
 have x7 := h0x.c 7 rfl
 have u7 := h0x.free 7
 have y0 := hyx.c0
 have z0 := hy4.c0
 have z1 := hy4.c1
 have b0 := hk4.c0
 have b1 := hk4.c1
 have c0 := h04.c 0 rfl
 have c1 := h04.c 1 rfl
 have c2 := h04.c 2 rfl
 have c3 := h04.c 3 rfl
 have c4 := h04.c 4 rfl
 have c5 := h04.c 5 rfl
 have c6 := h04.c 6 rfl
 have c7 := h04.c 7 rfl
 have c8 := h04.c 8 rfl
 have c9 := h04.c 9 rfl
 have H04 := hid h04
 have HM4 := hid hm4
 have HK4 := hid hk4
 have HY4 := hid hy4
 have HB4 := hid hB4
 have HL4 := hid hs4
 have HD := hid h
 have HO := hid hok
 have HD4 := hid ((h.below hB4).same (d' := (⟨d.now, d.back, d.forth, d.opn, d.kills, d.top, 0, d.fr, d.to_⟩ : DS)) rfl rfl rfl)
 clear hb0 hb1 hb2 hB2 h0x hyx h04 hm4 hk4 hy4 hB4 hs2 hs4 h hok
 unfold dsV
 go_enter Tryz.func26, Tryz.ntmps26
 have HC := hid (dmove_calls W4 D r (⟨d.now, d.back, d.forth, d.opn, d.kills, d.top, 0, d.fr, d.to_⟩ : DS) B HD4.out ⟨HO.out.now, HO.out.back, HO.out.forth, HO.out.len, HO.out.kills, HO.out.small, HO.out.top⟩ 0)
 (try unfold dsV at HC)
 go_wp2_with fail
 refine HC.out.mono ?_
 rintro e w5 ⟨r1, d1, rfl, ht⟩
 clear c0 c1 c2 c3 c4 c5 c6 c7 c8 c9
 obtain ⟨D1, a1, a2, a3, a4⟩ := ht
 have h05 := H04.out.below a4
 have hm5 := HM4.out.below a4
 have hlc := HL4.out
 have k0 := h05.c 0 rfl
 have k1 := h05.c 1 rfl
 have k2 := h05.c 2 rfl
 have k3 := h05.c 3 rfl
 have k4 := h05.c 4 rfl
 have k5 := h05.c 5 rfl
 have k6 := h05.c 6 rfl
 have k7 := h05.c 7 rfl
 have k8 := h05.c 8 rfl
 have k9 := h05.c 9 rfl
 have u0 := h05.free 0
 have u1 := h05.free 1
 have u2 := h05.free 2
 have u3 := h05.free 3
 have u4 := h05.free 4
 have u5 := h05.free 5
 have u6 := h05.free 6
 have u7 := h05.free 7
 have u8 := h05.free 8
 have u9 := h05.free 9
 obtain ⟨W6, hW6⟩ : ∃ W6, ((((((((((w5.setCell ⟨w.heap.size, 0, none⟩ (.string (bs d1.now.1))).setCell ⟨w.heap.size, 1, none⟩ (.int .i64 d1.now.2)).setCell ⟨w.heap.size, 2, none⟩ (.slice r1.A1 d1.back.length r1.c1)).setCell ⟨w.heap.size, 3, none⟩ (.slice r1.A2 d1.forth.length r1.c2)).setCell ⟨w.heap.size, 4, none⟩ (.bool d1.opn)).setCell ⟨w.heap.size, 5, none⟩ (.slice r1.A3 d1.kills.length r1.c3)).setCell ⟨w.heap.size, 6, none⟩ (.int .i64 d1.top)).setCell ⟨w.heap.size, 7, none⟩ (.int .i64 d1.last)).setCell ⟨w.heap.size, 8, none⟩ (.int .i64 d1.fr)).setCell ⟨w.heap.size, 9, none⟩ (.int .i64 d1.to_)) = W6 := ⟨_, rfl⟩
 have ht6 := ten_boxD h05 r1 d1
 have ho6 := ten_onlyD w5 w.heap.size r1 d1
 have h06 : BxA W6 w.heap.size 32 (dsK r1 d1) := by rw [← hW6]; exact ht6
 have ho7 : Only (fun i => i = w.heap.size) w5 W6 := by rw [← hW6]; exact ho6
 have hm6 : BxA W6 (w.heap.size + 1 + 1) 32 dsZ := hm5.keep ho7 (fun e => by omega)
 have hB5 := HB4.out.trans (a4.mono HB4.out.size)
 have hB6 : Below w.heap.size w W6 := hB5.trans (ho7.below hB5.size (fun i (hi : i = _) => by omega))
 have hin : DsIn D (B + 600) W6 (w.heap.size + 3) r1 d1 := ⟨D1, a1.keep ho7 (fun k hk (e : k = _) => (a3 k hk).elim (fun h1 => by have := HD.out.lt k h1; omega) (fun h1 => by omega)), a2.more, fun k hk => (a3 k hk).imp id (fun h => by omega)⟩
 have HX := hid hm6
 have HF : Hid (DsTo w D (B + 600) (tenD W6 (w.heap.size + 1 + 1) r1 d1) r1 d1) := hid (dsin_fin2 HD.out hin hB6 (by omega) (by omega) (.string (bs d1.now.1)) (.int .i64 d1.now.2) (.slice r1.A1 d1.back.length r1.c1) (.slice r1.A2 d1.forth.length r1.c2) (.bool d1.opn) (.slice r1.A3 d1.kills.length r1.c3) (.int .i64 d1.top) (.int .i64 d1.last) (.int .i64 d1.fr) (.int .i64 d1.to_))
 have H06 := hid h06
 have c0 := h06.c 0 rfl
 have c1 := h06.c 1 rfl
 have c2 := h06.c 2 rfl
 have c3 := h06.c 3 rfl
 have c4 := h06.c 4 rfl
 have c5 := h06.c 5 rfl
 have c6 := h06.c 6 rfl
 have c7 := h06.c 7 rfl
 have c8 := h06.c 8 rfl
 have c9 := h06.c 9 rfl
 have e0 := hm6.c 0 rfl
 have e1 := hm6.c 1 rfl
 have e2 := hm6.c 2 rfl
 have e3 := hm6.c 3 rfl
 have e4 := hm6.c 4 rfl
 have e5 := hm6.c 5 rfl
 have e6 := hm6.c 6 rfl
 have e7 := hm6.c 7 rfl
 have e8 := hm6.c 8 rfl
 have e9 := hm6.c 9 rfl
 have f0 := hm6.free 0
 have f1 := hm6.free 1
 have f2 := hm6.free 2
 have f3 := hm6.free 3
 have f4 := hm6.free 4
 have f5 := hm6.free 5
 have f6 := hm6.free 6
 have f7 := hm6.free 7
 have f8 := hm6.free 8
 have f9 := hm6.free 9
 clear a1 a2 a3 a4 h05 hm5 ht6 ho6 ho7 hB5 hB6 hin h06 hm6 hlc
 (try unfold dsV)
 clear HC
 go_wp2_with fail
 refine bodyPost_ret (results_bx10' rfl _ _ ((w.heap.size + 1 + 1)) _ _ _ _ _ _ _ _ _ _ _ 32 rfl rfl (ten_box HX.out _ _ _ _ _ _ _ _ _ _) Tryz.underlying32 (szS _)) rfl ?_
 exact ⟨r1, d1, true, rfl, HF.out⟩
set_option maxHeartbeats 8000000 in
theorem dpress_k8 (w : World) (D : Nat → Prop) (r : DR) (d : DS) (B : Nat) (h : DsAt w D r d) (hok : d.Ok B) (hB8 : B ≤ 1000000) (t : List UInt8) (ht0 : t.length ≤ 100000) :
  Calls Tryz.prog 26 #[dsV r d, .agg #[.int .i64 8, .string (bs t)]] w fun e w' => ∃ r' d' q, e = .returned (.tuple #[dsV r' d', .bool q]) ∧ DsTo w D (B + 600) w' r' d' := by
 obtain ⟨W2, hW2, hB2, hs2, hb0, hb1, hb2⟩ := boxes7k w r d 8 (bs t)
 have h0x := hb0.alloc (.cells #[.string (bs d.now.1), .int .i64 d.now.2] 28)
 have hyx := hb1.alloc (.cells #[.string (bs d.now.1), .int .i64 d.now.2] 28)
 obtain ⟨W4, hW4⟩ : ∃ W4, (W2.alloc (.cells #[.string (bs d.now.1), .int .i64 d.now.2] 28)).setCell ⟨w.heap.size, 7, none⟩ (.int .i64 0) = W4 := ⟨_, rfl⟩
 have h04 : BxA W4 w.heap.size 32 [.string (bs d.now.1), .int .i64 d.now.2, .slice r.A1 d.back.length r.c1, .slice r.A2 d.forth.length r.c2, .bool d.opn, .slice r.A3 d.kills.length r.c3, .int .i64 d.top, .int .i64 0, .int .i64 d.fr, .int .i64 d.to_] := by rw [← hW4]; exact h0x.set 7 _
 have hy4 : Bx W4 (w.heap.size + 1) 34 (.int .i64 8) (.string (bs t)) := by rw [← hW4]; exact hyx.other (by omega) _
 have hm4 : BxA W4 (w.heap.size + 1 + 1) 32 dsZ := by rw [← hW4]; exact (hb2.alloc _).other (by omega) _
 have hk4 : Bx W4 W2.heap.size 28 (.string (bs d.now.1)) (.int .i64 d.now.2) := by rw [← hW4]; exact (Bx.new W2 _ _ _).other (by omega) _
 have hB4 : Below w.heap.size w W4 := by rw [← hW4]; exact (hB2.alloc hB2.size _).setCell (p := ⟨w.heap.size, 7, none⟩) (Nat.le_refl _) _
 have hs4 : w.heap.size + 3 ≤ W4.heap.size := by rw [← hW4]; simp [World.setCell]; omega
 have hszn := bs_size d.now.1
 have hnow := hok.now
 have _ := hB8
 have _ := ht0
 have k0 := hb0.c 0 rfl
 have k1 := hb0.c 1 rfl
 have k7 := hb0.c 7 rfl
 have x7 := h0x.c 7 rfl
 have u7 := h0x.free 7
 have y0 := hyx.c0
 have z0 := hy4.c0
 have z1 := hy4.c1
 have b0 := hk4.c0
 have b1 := hk4.c1
 have c0 := h04.c 0 rfl
 have c1 := h04.c 1 rfl
 have c2 := h04.c 2 rfl
 have c3 := h04.c 3 rfl
 have c4 := h04.c 4 rfl
 have c5 := h04.c 5 rfl
 have c6 := h04.c 6 rfl
 have c7 := h04.c 7 rfl
 have c8 := h04.c 8 rfl
 have c9 := h04.c 9 rfl
 have H04 := hid h04
 have HM4 := hid hm4
 have HK4 := hid hk4
 have HY4 := hid hy4
 have HB4 := hid hB4
 have HL4 := hid hs4
 have HD := hid h
 have HO := hid hok
 have HD4 := hid ((h.below hB4).same (d' := (⟨d.now, d.back, d.forth, d.opn, d.kills, d.top, 0, d.fr, d.to_⟩ : DS)) rfl rfl rfl)
 clear hb0 hb1 hb2 hB2 h0x hyx h04 hm4 hk4 hy4 hB4 hs2 hs4 h hok
 unfold dsV
 go_enter Tryz.func26, Tryz.ntmps26
 have HC := hid (dmove_calls W4 D r (⟨d.now, d.back, d.forth, d.opn, d.kills, d.top, 0, d.fr, d.to_⟩ : DS) B HD4.out ⟨HO.out.now, HO.out.back, HO.out.forth, HO.out.len, HO.out.kills, HO.out.small, HO.out.top⟩ (d.now.1.length : Int))
 (try unfold dsV at HC)
 go_wp2_with fail
 refine HC.out.mono ?_
 rintro e w5 ⟨r1, d1, rfl, ht⟩
 clear c0 c1 c2 c3 c4 c5 c6 c7 c8 c9
 obtain ⟨D1, a1, a2, a3, a4⟩ := ht
 have h05 := H04.out.below a4
 have hm5 := HM4.out.below a4
 have hlc := HL4.out
 have k0 := h05.c 0 rfl
 have k1 := h05.c 1 rfl
 have k2 := h05.c 2 rfl
 have k3 := h05.c 3 rfl
 have k4 := h05.c 4 rfl
 have k5 := h05.c 5 rfl
 have k6 := h05.c 6 rfl
 have k7 := h05.c 7 rfl
 have k8 := h05.c 8 rfl
 have k9 := h05.c 9 rfl
 have u0 := h05.free 0
 have u1 := h05.free 1
 have u2 := h05.free 2
 have u3 := h05.free 3
 have u4 := h05.free 4
 have u5 := h05.free 5
 have u6 := h05.free 6
 have u7 := h05.free 7
 have u8 := h05.free 8
 have u9 := h05.free 9
 obtain ⟨W6, hW6⟩ : ∃ W6, ((((((((((w5.setCell ⟨w.heap.size, 0, none⟩ (.string (bs d1.now.1))).setCell ⟨w.heap.size, 1, none⟩ (.int .i64 d1.now.2)).setCell ⟨w.heap.size, 2, none⟩ (.slice r1.A1 d1.back.length r1.c1)).setCell ⟨w.heap.size, 3, none⟩ (.slice r1.A2 d1.forth.length r1.c2)).setCell ⟨w.heap.size, 4, none⟩ (.bool d1.opn)).setCell ⟨w.heap.size, 5, none⟩ (.slice r1.A3 d1.kills.length r1.c3)).setCell ⟨w.heap.size, 6, none⟩ (.int .i64 d1.top)).setCell ⟨w.heap.size, 7, none⟩ (.int .i64 d1.last)).setCell ⟨w.heap.size, 8, none⟩ (.int .i64 d1.fr)).setCell ⟨w.heap.size, 9, none⟩ (.int .i64 d1.to_)) = W6 := ⟨_, rfl⟩
 have ht6 := ten_boxD h05 r1 d1
 have ho6 := ten_onlyD w5 w.heap.size r1 d1
 have h06 : BxA W6 w.heap.size 32 (dsK r1 d1) := by rw [← hW6]; exact ht6
 have ho7 : Only (fun i => i = w.heap.size) w5 W6 := by rw [← hW6]; exact ho6
 have hm6 : BxA W6 (w.heap.size + 1 + 1) 32 dsZ := hm5.keep ho7 (fun e => by omega)
 have hB5 := HB4.out.trans (a4.mono HB4.out.size)
 have hB6 : Below w.heap.size w W6 := hB5.trans (ho7.below hB5.size (fun i (hi : i = _) => by omega))
 have hin : DsIn D (B + 600) W6 (w.heap.size + 3) r1 d1 := ⟨D1, a1.keep ho7 (fun k hk (e : k = _) => (a3 k hk).elim (fun h1 => by have := HD.out.lt k h1; omega) (fun h1 => by omega)), a2.more, fun k hk => (a3 k hk).imp id (fun h => by omega)⟩
 have HX := hid hm6
 have HF : Hid (DsTo w D (B + 600) (tenD W6 (w.heap.size + 1 + 1) r1 d1) r1 d1) := hid (dsin_fin2 HD.out hin hB6 (by omega) (by omega) (.string (bs d1.now.1)) (.int .i64 d1.now.2) (.slice r1.A1 d1.back.length r1.c1) (.slice r1.A2 d1.forth.length r1.c2) (.bool d1.opn) (.slice r1.A3 d1.kills.length r1.c3) (.int .i64 d1.top) (.int .i64 d1.last) (.int .i64 d1.fr) (.int .i64 d1.to_))
 have H06 := hid h06
 have c0 := h06.c 0 rfl
 have c1 := h06.c 1 rfl
 have c2 := h06.c 2 rfl
 have c3 := h06.c 3 rfl
 have c4 := h06.c 4 rfl
 have c5 := h06.c 5 rfl
 have c6 := h06.c 6 rfl
 have c7 := h06.c 7 rfl
 have c8 := h06.c 8 rfl
 have c9 := h06.c 9 rfl
 have e0 := hm6.c 0 rfl
 have e1 := hm6.c 1 rfl
 have e2 := hm6.c 2 rfl
 have e3 := hm6.c 3 rfl
 have e4 := hm6.c 4 rfl
 have e5 := hm6.c 5 rfl
 have e6 := hm6.c 6 rfl
 have e7 := hm6.c 7 rfl
 have e8 := hm6.c 8 rfl
 have e9 := hm6.c 9 rfl
 have f0 := hm6.free 0
 have f1 := hm6.free 1
 have f2 := hm6.free 2
 have f3 := hm6.free 3
 have f4 := hm6.free 4
 have f5 := hm6.free 5
 have f6 := hm6.free 6
 have f7 := hm6.free 7
 have f8 := hm6.free 8
 have f9 := hm6.free 9
 clear a1 a2 a3 a4 h05 hm5 ht6 ho6 ho7 hB5 hB6 hin h06 hm6 hlc
 (try unfold dsV)
 clear HC
 go_wp2_with fail
 refine bodyPost_ret (results_bx10' rfl _ _ ((w.heap.size + 1 + 1)) _ _ _ _ _ _ _ _ _ _ _ 32 rfl rfl (ten_box HX.out _ _ _ _ _ _ _ _ _ _) Tryz.underlying32 (szS _)) rfl ?_
 exact ⟨r1, d1, true, rfl, HF.out⟩
set_option maxHeartbeats 8000000 in
theorem dpress_k17 (w : World) (D : Nat → Prop) (r : DR) (d : DS) (B : Nat) (h : DsAt w D r d) (hok : d.Ok B) (hB8 : B ≤ 1000000) (t : List UInt8) (ht0 : t.length ≤ 100000) :
  Calls Tryz.prog 26 #[dsV r d, .agg #[.int .i64 17, .string (bs t)]] w fun e w' => ∃ r' d' q, e = .returned (.tuple #[dsV r' d', .bool q]) ∧ DsTo w D (B + 600) w' r' d' := by
 obtain ⟨W2, hW2, hB2, hs2, hb0, hb1, hb2⟩ := boxes7k w r d 17 (bs t)
 have h0x := hb0.alloc (.cells #[.string (bs d.now.1), .int .i64 d.now.2] 28)
 have hyx := hb1.alloc (.cells #[.string (bs d.now.1), .int .i64 d.now.2] 28)
 obtain ⟨W4, hW4⟩ : ∃ W4, (W2.alloc (.cells #[.string (bs d.now.1), .int .i64 d.now.2] 28)).setCell ⟨w.heap.size, 7, none⟩ (.int .i64 0) = W4 := ⟨_, rfl⟩
 have h04 : BxA W4 w.heap.size 32 [.string (bs d.now.1), .int .i64 d.now.2, .slice r.A1 d.back.length r.c1, .slice r.A2 d.forth.length r.c2, .bool d.opn, .slice r.A3 d.kills.length r.c3, .int .i64 d.top, .int .i64 0, .int .i64 d.fr, .int .i64 d.to_] := by rw [← hW4]; exact h0x.set 7 _
 have hy4 : Bx W4 (w.heap.size + 1) 34 (.int .i64 17) (.string (bs t)) := by rw [← hW4]; exact hyx.other (by omega) _
 have hm4 : BxA W4 (w.heap.size + 1 + 1) 32 dsZ := by rw [← hW4]; exact (hb2.alloc _).other (by omega) _
 have hk4 : Bx W4 W2.heap.size 28 (.string (bs d.now.1)) (.int .i64 d.now.2) := by rw [← hW4]; exact (Bx.new W2 _ _ _).other (by omega) _
 have hB4 : Below w.heap.size w W4 := by rw [← hW4]; exact (hB2.alloc hB2.size _).setCell (p := ⟨w.heap.size, 7, none⟩) (Nat.le_refl _) _
 have hs4 : w.heap.size + 3 ≤ W4.heap.size := by rw [← hW4]; simp [World.setCell]; omega
 have hszn := bs_size d.now.1
 have hnow := hok.now
 have _ := hB8
 have _ := ht0
 have k0 := hb0.c 0 rfl
 have k1 := hb0.c 1 rfl
 have k7 := hb0.c 7 rfl
 have x7 := h0x.c 7 rfl
 have u7 := h0x.free 7
 have y0 := hyx.c0
 have z0 := hy4.c0
 have z1 := hy4.c1
 have b0 := hk4.c0
 have b1 := hk4.c1
 have c0 := h04.c 0 rfl
 have c1 := h04.c 1 rfl
 have c2 := h04.c 2 rfl
 have c3 := h04.c 3 rfl
 have c4 := h04.c 4 rfl
 have c5 := h04.c 5 rfl
 have c6 := h04.c 6 rfl
 have c7 := h04.c 7 rfl
 have c8 := h04.c 8 rfl
 have c9 := h04.c 9 rfl
 have H04 := hid h04
 have HM4 := hid hm4
 have HK4 := hid hk4
 have HY4 := hid hy4
 have HB4 := hid hB4
 have HL4 := hid hs4
 have HD := hid h
 have HO := hid hok
 have HD4 := hid ((h.below hB4).same (d' := (⟨d.now, d.back, d.forth, d.opn, d.kills, d.top, 0, d.fr, d.to_⟩ : DS)) rfl rfl rfl)
 clear hb0 hb1 hb2 hB2 h0x hyx h04 hm4 hk4 hy4 hB4 hs2 hs4 h hok
 unfold dsV
 go_enter Tryz.func26, Tryz.ntmps26
 have HC := hid (dback_calls W4 D r (⟨d.now, d.back, d.forth, d.opn, d.kills, d.top, 0, d.fr, d.to_⟩ : DS) B HD4.out ⟨HO.out.now, HO.out.back, HO.out.forth, HO.out.len, HO.out.kills, HO.out.small, HO.out.top⟩)
 (try unfold dsV at HC)
 go_wp2_with fail
 refine HC.out.mono ?_
 rintro e w5 ⟨r1, d1, rfl, ht⟩
 clear c0 c1 c2 c3 c4 c5 c6 c7 c8 c9
 obtain ⟨D1, a1, a2, a3, a4⟩ := ht
 have h05 := H04.out.below a4
 have hm5 := HM4.out.below a4
 have hlc := HL4.out
 have k0 := h05.c 0 rfl
 have k1 := h05.c 1 rfl
 have k2 := h05.c 2 rfl
 have k3 := h05.c 3 rfl
 have k4 := h05.c 4 rfl
 have k5 := h05.c 5 rfl
 have k6 := h05.c 6 rfl
 have k7 := h05.c 7 rfl
 have k8 := h05.c 8 rfl
 have k9 := h05.c 9 rfl
 have u0 := h05.free 0
 have u1 := h05.free 1
 have u2 := h05.free 2
 have u3 := h05.free 3
 have u4 := h05.free 4
 have u5 := h05.free 5
 have u6 := h05.free 6
 have u7 := h05.free 7
 have u8 := h05.free 8
 have u9 := h05.free 9
 obtain ⟨W6, hW6⟩ : ∃ W6, ((((((((((w5.setCell ⟨w.heap.size, 0, none⟩ (.string (bs d1.now.1))).setCell ⟨w.heap.size, 1, none⟩ (.int .i64 d1.now.2)).setCell ⟨w.heap.size, 2, none⟩ (.slice r1.A1 d1.back.length r1.c1)).setCell ⟨w.heap.size, 3, none⟩ (.slice r1.A2 d1.forth.length r1.c2)).setCell ⟨w.heap.size, 4, none⟩ (.bool d1.opn)).setCell ⟨w.heap.size, 5, none⟩ (.slice r1.A3 d1.kills.length r1.c3)).setCell ⟨w.heap.size, 6, none⟩ (.int .i64 d1.top)).setCell ⟨w.heap.size, 7, none⟩ (.int .i64 d1.last)).setCell ⟨w.heap.size, 8, none⟩ (.int .i64 d1.fr)).setCell ⟨w.heap.size, 9, none⟩ (.int .i64 d1.to_)) = W6 := ⟨_, rfl⟩
 have ht6 := ten_boxD h05 r1 d1
 have ho6 := ten_onlyD w5 w.heap.size r1 d1
 have h06 : BxA W6 w.heap.size 32 (dsK r1 d1) := by rw [← hW6]; exact ht6
 have ho7 : Only (fun i => i = w.heap.size) w5 W6 := by rw [← hW6]; exact ho6
 have hm6 : BxA W6 (w.heap.size + 1 + 1) 32 dsZ := hm5.keep ho7 (fun e => by omega)
 have hB5 := HB4.out.trans (a4.mono HB4.out.size)
 have hB6 : Below w.heap.size w W6 := hB5.trans (ho7.below hB5.size (fun i (hi : i = _) => by omega))
 have hin : DsIn D (B + 600) W6 (w.heap.size + 3) r1 d1 := ⟨D1, a1.keep ho7 (fun k hk (e : k = _) => (a3 k hk).elim (fun h1 => by have := HD.out.lt k h1; omega) (fun h1 => by omega)), a2.more, fun k hk => (a3 k hk).imp id (fun h => by omega)⟩
 have HX := hid hm6
 have HF : Hid (DsTo w D (B + 600) (tenD W6 (w.heap.size + 1 + 1) r1 d1) r1 d1) := hid (dsin_fin2 HD.out hin hB6 (by omega) (by omega) (.string (bs d1.now.1)) (.int .i64 d1.now.2) (.slice r1.A1 d1.back.length r1.c1) (.slice r1.A2 d1.forth.length r1.c2) (.bool d1.opn) (.slice r1.A3 d1.kills.length r1.c3) (.int .i64 d1.top) (.int .i64 d1.last) (.int .i64 d1.fr) (.int .i64 d1.to_))
 have H06 := hid h06
 have c0 := h06.c 0 rfl
 have c1 := h06.c 1 rfl
 have c2 := h06.c 2 rfl
 have c3 := h06.c 3 rfl
 have c4 := h06.c 4 rfl
 have c5 := h06.c 5 rfl
 have c6 := h06.c 6 rfl
 have c7 := h06.c 7 rfl
 have c8 := h06.c 8 rfl
 have c9 := h06.c 9 rfl
 have e0 := hm6.c 0 rfl
 have e1 := hm6.c 1 rfl
 have e2 := hm6.c 2 rfl
 have e3 := hm6.c 3 rfl
 have e4 := hm6.c 4 rfl
 have e5 := hm6.c 5 rfl
 have e6 := hm6.c 6 rfl
 have e7 := hm6.c 7 rfl
 have e8 := hm6.c 8 rfl
 have e9 := hm6.c 9 rfl
 have f0 := hm6.free 0
 have f1 := hm6.free 1
 have f2 := hm6.free 2
 have f3 := hm6.free 3
 have f4 := hm6.free 4
 have f5 := hm6.free 5
 have f6 := hm6.free 6
 have f7 := hm6.free 7
 have f8 := hm6.free 8
 have f9 := hm6.free 9
 clear a1 a2 a3 a4 h05 hm5 ht6 ho6 ho7 hB5 hB6 hin h06 hm6 hlc
 (try unfold dsV)
 clear HC
 go_wp2_with fail
 refine bodyPost_ret (results_bx10' rfl _ _ ((w.heap.size + 1 + 1)) _ _ _ _ _ _ _ _ _ _ _ 32 rfl rfl (ten_box HX.out _ _ _ _ _ _ _ _ _ _) Tryz.underlying32 (szS _)) rfl ?_
 exact ⟨r1, d1, true, rfl, HF.out⟩
set_option maxHeartbeats 8000000 in
theorem dpress_k18 (w : World) (D : Nat → Prop) (r : DR) (d : DS) (B : Nat) (h : DsAt w D r d) (hok : d.Ok B) (hB8 : B ≤ 1000000) (t : List UInt8) (ht0 : t.length ≤ 100000) :
  Calls Tryz.prog 26 #[dsV r d, .agg #[.int .i64 18, .string (bs t)]] w fun e w' => ∃ r' d' q, e = .returned (.tuple #[dsV r' d', .bool q]) ∧ DsTo w D (B + 600) w' r' d' := by
 obtain ⟨W2, hW2, hB2, hs2, hb0, hb1, hb2⟩ := boxes7k w r d 18 (bs t)
 have h0x := hb0.alloc (.cells #[.string (bs d.now.1), .int .i64 d.now.2] 28)
 have hyx := hb1.alloc (.cells #[.string (bs d.now.1), .int .i64 d.now.2] 28)
 obtain ⟨W4, hW4⟩ : ∃ W4, (W2.alloc (.cells #[.string (bs d.now.1), .int .i64 d.now.2] 28)).setCell ⟨w.heap.size, 7, none⟩ (.int .i64 0) = W4 := ⟨_, rfl⟩
 have h04 : BxA W4 w.heap.size 32 [.string (bs d.now.1), .int .i64 d.now.2, .slice r.A1 d.back.length r.c1, .slice r.A2 d.forth.length r.c2, .bool d.opn, .slice r.A3 d.kills.length r.c3, .int .i64 d.top, .int .i64 0, .int .i64 d.fr, .int .i64 d.to_] := by rw [← hW4]; exact h0x.set 7 _
 have hy4 : Bx W4 (w.heap.size + 1) 34 (.int .i64 18) (.string (bs t)) := by rw [← hW4]; exact hyx.other (by omega) _
 have hm4 : BxA W4 (w.heap.size + 1 + 1) 32 dsZ := by rw [← hW4]; exact (hb2.alloc _).other (by omega) _
 have hk4 : Bx W4 W2.heap.size 28 (.string (bs d.now.1)) (.int .i64 d.now.2) := by rw [← hW4]; exact (Bx.new W2 _ _ _).other (by omega) _
 have hB4 : Below w.heap.size w W4 := by rw [← hW4]; exact (hB2.alloc hB2.size _).setCell (p := ⟨w.heap.size, 7, none⟩) (Nat.le_refl _) _
 have hs4 : w.heap.size + 3 ≤ W4.heap.size := by rw [← hW4]; simp [World.setCell]; omega
 have hszn := bs_size d.now.1
 have hnow := hok.now
 have _ := hB8
 have _ := ht0
 have k0 := hb0.c 0 rfl
 have k1 := hb0.c 1 rfl
 have k7 := hb0.c 7 rfl
 have x7 := h0x.c 7 rfl
 have u7 := h0x.free 7
 have y0 := hyx.c0
 have z0 := hy4.c0
 have z1 := hy4.c1
 have b0 := hk4.c0
 have b1 := hk4.c1
 have c0 := h04.c 0 rfl
 have c1 := h04.c 1 rfl
 have c2 := h04.c 2 rfl
 have c3 := h04.c 3 rfl
 have c4 := h04.c 4 rfl
 have c5 := h04.c 5 rfl
 have c6 := h04.c 6 rfl
 have c7 := h04.c 7 rfl
 have c8 := h04.c 8 rfl
 have c9 := h04.c 9 rfl
 have H04 := hid h04
 have HM4 := hid hm4
 have HK4 := hid hk4
 have HY4 := hid hy4
 have HB4 := hid hB4
 have HL4 := hid hs4
 have HD := hid h
 have HO := hid hok
 have HD4 := hid ((h.below hB4).same (d' := (⟨d.now, d.back, d.forth, d.opn, d.kills, d.top, 0, d.fr, d.to_⟩ : DS)) rfl rfl rfl)
 clear hb0 hb1 hb2 hB2 h0x hyx h04 hm4 hk4 hy4 hB4 hs2 hs4 h hok
 unfold dsV
 go_enter Tryz.func26, Tryz.ntmps26
 have HC := hid (dforth_calls W4 D r (⟨d.now, d.back, d.forth, d.opn, d.kills, d.top, 0, d.fr, d.to_⟩ : DS) B HD4.out ⟨HO.out.now, HO.out.back, HO.out.forth, HO.out.len, HO.out.kills, HO.out.small, HO.out.top⟩)
 (try unfold dsV at HC)
 go_wp2_with fail
 refine HC.out.mono ?_
 rintro e w5 ⟨r1, d1, rfl, ht⟩
 clear c0 c1 c2 c3 c4 c5 c6 c7 c8 c9
 obtain ⟨D1, a1, a2, a3, a4⟩ := ht
 have h05 := H04.out.below a4
 have hm5 := HM4.out.below a4
 have hlc := HL4.out
 have k0 := h05.c 0 rfl
 have k1 := h05.c 1 rfl
 have k2 := h05.c 2 rfl
 have k3 := h05.c 3 rfl
 have k4 := h05.c 4 rfl
 have k5 := h05.c 5 rfl
 have k6 := h05.c 6 rfl
 have k7 := h05.c 7 rfl
 have k8 := h05.c 8 rfl
 have k9 := h05.c 9 rfl
 have u0 := h05.free 0
 have u1 := h05.free 1
 have u2 := h05.free 2
 have u3 := h05.free 3
 have u4 := h05.free 4
 have u5 := h05.free 5
 have u6 := h05.free 6
 have u7 := h05.free 7
 have u8 := h05.free 8
 have u9 := h05.free 9
 obtain ⟨W6, hW6⟩ : ∃ W6, ((((((((((w5.setCell ⟨w.heap.size, 0, none⟩ (.string (bs d1.now.1))).setCell ⟨w.heap.size, 1, none⟩ (.int .i64 d1.now.2)).setCell ⟨w.heap.size, 2, none⟩ (.slice r1.A1 d1.back.length r1.c1)).setCell ⟨w.heap.size, 3, none⟩ (.slice r1.A2 d1.forth.length r1.c2)).setCell ⟨w.heap.size, 4, none⟩ (.bool d1.opn)).setCell ⟨w.heap.size, 5, none⟩ (.slice r1.A3 d1.kills.length r1.c3)).setCell ⟨w.heap.size, 6, none⟩ (.int .i64 d1.top)).setCell ⟨w.heap.size, 7, none⟩ (.int .i64 d1.last)).setCell ⟨w.heap.size, 8, none⟩ (.int .i64 d1.fr)).setCell ⟨w.heap.size, 9, none⟩ (.int .i64 d1.to_)) = W6 := ⟨_, rfl⟩
 have ht6 := ten_boxD h05 r1 d1
 have ho6 := ten_onlyD w5 w.heap.size r1 d1
 have h06 : BxA W6 w.heap.size 32 (dsK r1 d1) := by rw [← hW6]; exact ht6
 have ho7 : Only (fun i => i = w.heap.size) w5 W6 := by rw [← hW6]; exact ho6
 have hm6 : BxA W6 (w.heap.size + 1 + 1) 32 dsZ := hm5.keep ho7 (fun e => by omega)
 have hB5 := HB4.out.trans (a4.mono HB4.out.size)
 have hB6 : Below w.heap.size w W6 := hB5.trans (ho7.below hB5.size (fun i (hi : i = _) => by omega))
 have hin : DsIn D (B + 600) W6 (w.heap.size + 3) r1 d1 := ⟨D1, a1.keep ho7 (fun k hk (e : k = _) => (a3 k hk).elim (fun h1 => by have := HD.out.lt k h1; omega) (fun h1 => by omega)), a2.more, fun k hk => (a3 k hk).imp id (fun h => by omega)⟩
 have HX := hid hm6
 have HF : Hid (DsTo w D (B + 600) (tenD W6 (w.heap.size + 1 + 1) r1 d1) r1 d1) := hid (dsin_fin2 HD.out hin hB6 (by omega) (by omega) (.string (bs d1.now.1)) (.int .i64 d1.now.2) (.slice r1.A1 d1.back.length r1.c1) (.slice r1.A2 d1.forth.length r1.c2) (.bool d1.opn) (.slice r1.A3 d1.kills.length r1.c3) (.int .i64 d1.top) (.int .i64 d1.last) (.int .i64 d1.fr) (.int .i64 d1.to_))
 have H06 := hid h06
 have c0 := h06.c 0 rfl
 have c1 := h06.c 1 rfl
 have c2 := h06.c 2 rfl
 have c3 := h06.c 3 rfl
 have c4 := h06.c 4 rfl
 have c5 := h06.c 5 rfl
 have c6 := h06.c 6 rfl
 have c7 := h06.c 7 rfl
 have c8 := h06.c 8 rfl
 have c9 := h06.c 9 rfl
 have e0 := hm6.c 0 rfl
 have e1 := hm6.c 1 rfl
 have e2 := hm6.c 2 rfl
 have e3 := hm6.c 3 rfl
 have e4 := hm6.c 4 rfl
 have e5 := hm6.c 5 rfl
 have e6 := hm6.c 6 rfl
 have e7 := hm6.c 7 rfl
 have e8 := hm6.c 8 rfl
 have e9 := hm6.c 9 rfl
 have f0 := hm6.free 0
 have f1 := hm6.free 1
 have f2 := hm6.free 2
 have f3 := hm6.free 3
 have f4 := hm6.free 4
 have f5 := hm6.free 5
 have f6 := hm6.free 6
 have f7 := hm6.free 7
 have f8 := hm6.free 8
 have f9 := hm6.free 9
 clear a1 a2 a3 a4 h05 hm5 ht6 ho6 ho7 hB5 hB6 hin h06 hm6 hlc
 (try unfold dsV)
 clear HC
 go_wp2_with fail
 refine bodyPost_ret (results_bx10' rfl _ _ ((w.heap.size + 1 + 1)) _ _ _ _ _ _ _ _ _ _ _ 32 rfl rfl (ten_box HX.out _ _ _ _ _ _ _ _ _ _) Tryz.underlying32 (szS _)) rfl ?_
 exact ⟨r1, d1, true, rfl, HF.out⟩
end
end Go.Proofs.YtoaponaljkhlfaaGreatDoor
