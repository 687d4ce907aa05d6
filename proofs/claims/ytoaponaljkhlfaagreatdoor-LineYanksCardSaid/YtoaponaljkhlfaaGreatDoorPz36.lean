/-
  Layer 7 and what it stands on, part 36 (DocM DocR).
-/
import Derived.Test.YtoaponaljkhlfaaGreatDoorPz35
import Derived.Deep.Cut
namespace Go.Proofs.YtoaponaljkhlfaaGreatDoor
section
open Go Go.RowKit
open Go.Lib (hid)
set_option maxRecDepth 100000
theorem ksmallDocM {g : List UInt8} {ks : List ByteArray} {B : Nat} (hg : g.length ≤ 600) (hs : ∀ x ∈ ks, x.size ≤ B) : ∀ x ∈ bs g :: ks, x.size ≤ B + 600 := fun x hx => by
 rcases List.mem_cons.1 hx with h | h
 ·rw [h, bs_size]; omega
 ·have := hs x h; omega
set_option maxHeartbeats 16000000 in
theorem dkill_w13 (w : World) (D : Nat → Prop) (r : DR) (d : DS) (B : Nat) (h : DsAt w D r d) (hok : d.Ok B) (hB8 : B ≤ 1000000) (was : Bool) :
  Calls Tryz.prog 64 #[dsV r d, .int .i64 13, .bool was] w fun e w' => ∃ r' d', e = .returned (dsV r' d') ∧ DsTo w D (B + 600) w' r' d' := by
 obtain ⟨W2, hW2, hB2, hs2, hb0, hb1⟩ := boxes7 w r d
 have h0x := hb0.alloc (.cells #[.string (bs d.now.1), .int .i64 d.now.2] 28)
 have hmx := hb1.alloc (.cells #[.string (bs d.now.1), .int .i64 d.now.2] 28)
 have hkx := Bx.new W2 28 (.string (bs d.now.1)) (.int .i64 d.now.2)
 have hBx : Below w.heap.size w (W2.alloc (.cells #[.string (bs d.now.1), .int .i64 d.now.2] 28)) := hB2.alloc hB2.size _
 have hszn := bs_size d.now.1
 have a0 := hb0.c 0 rfl
 have a1 := hb0.c 1 rfl
 have b0 := hkx.c0
 have b1 := hkx.c1
 have hnow := hok.now
 have HD := hid h
 have HO := hid hok
 have HWd := hid (rWord_calls d.now.1 (by omega) d.now.2 (-1) (.inl rfl) (W2.alloc (.cells #[.string (bs d.now.1), .int .i64 d.now.2] 28)))
 have H0x := hid h0x
 have HMx := hid hmx
 have HBx := hid hBx
 have HLx : Hid (w.heap.size + 2 ≤ (W2.alloc (.cells #[.string (bs d.now.1), .int .i64 d.now.2] 28)).heap.size) := hid (by simp; omega)
 clear hb0 hb1 hB2 hs2 h0x hmx hkx hBx h hok
 unfold dsV
 go_enter Tryz.func64, Tryz.ntmps64
 go_wp2_with fail
 refine HWd.out.mono ?_
 rintro e w3 ⟨kw, rfl, hkw, hb3⟩
 have H0c := hid (H0x.out.below hb3)
 have HMc := hid (HMx.out.below hb3)
 have HBc := hid (HBx.out.trans (hb3.mono HBx.out.size))
 have HLc : Hid (w.heap.size + 2 ≤ w3.heap.size) := hid (Nat.le_trans HLx.out hb3.size)
 clear hb3 H0x HMx HBx HLx HWd a0 a1 b0 b1
 have HCt := hid (dcut_calls w3 D r d B (HD.out.below HBc.out) HO.out (kw : Int) d.now.2)
 have h0c := H0c.out
 have c0 := h0c.c 0 rfl
 have c1 := h0c.c 1 rfl
 have c2 := h0c.c 2 rfl
 have c3 := h0c.c 3 rfl
 have c4 := h0c.c 4 rfl
 have c5 := h0c.c 5 rfl
 have c6 := h0c.c 6 rfl
 have c7 := h0c.c 7 rfl
 have c8 := h0c.c 8 rfl
 have c9 := h0c.c 9 rfl
 clear h0c
 unfold dsV at HCt
 go_wp2_with fail
 refine HCt.out.mono ?_
 rintro e w5 ⟨r1, d1, g, rfl, hg6, ht⟩
 obtain ⟨D1, a1, a2, a3, a4⟩ := ht
 have h05 := H0c.out.below a4
 have hm5 := HMc.out.below a4
 have hlc := HLc.out
 have k0 := h05.c 0 rfl
 have k1 := h05.c 1 rfl
 have k2 := h05.c 2 rfl
 have k3 := h05.c 3 rfl
 have k4 := h05.c 4 rfl
 have k5 := h05.c 5 rfl
 have k6 := h05.c 6 rfl
 have k7 := h05.c 7 rfl
 have k8 := h05.c 8 rfl
 have k9 := h05.c 9 rfl
 have u0 := h05.free 0
 have u1 := h05.free 1
 have u2 := h05.free 2
 have u3 := h05.free 3
 have u4 := h05.free 4
 have u5 := h05.free 5
 have u6 := h05.free 6
 have u7 := h05.free 7
 have u8 := h05.free 8
 have u9 := h05.free 9
 obtain ⟨W6, hW6⟩ : ∃ W6, (((((((((((w5.setCell ⟨w.heap.size, 0, none⟩ (.string (bs d1.now.1))).setCell ⟨w.heap.size, 1, none⟩ (.int .i64 d1.now.2)).setCell ⟨w.heap.size, 2, none⟩ (.slice r1.A1 d1.back.length r1.c1)).setCell ⟨w.heap.size, 3, none⟩ (.slice r1.A2 d1.forth.length r1.c2)).setCell ⟨w.heap.size, 4, none⟩ (.bool d1.opn)).setCell ⟨w.heap.size, 5, none⟩ (.slice r1.A3 d1.kills.length r1.c3)).setCell ⟨w.heap.size, 6, none⟩ (.int .i64 d1.top)).setCell ⟨w.heap.size, 7, none⟩ (.int .i64 d1.last)).setCell ⟨w.heap.size, 8, none⟩ (.int .i64 d1.fr)).setCell ⟨w.heap.size, 9, none⟩ (.int .i64 d1.to_)).setCell ⟨w.heap.size, 7, none⟩ (.int .i64 1)) = W6 := ⟨_, rfl⟩
 have ht6 := ten_boxD h05 r1 d1
 have ho6 := ten_onlyD w5 w.heap.size r1 d1
 have h06 : BxA W6 w.heap.size 32 [.string (bs d1.now.1), .int .i64 d1.now.2, .slice r1.A1 d1.back.length r1.c1, .slice r1.A2 d1.forth.length r1.c2, .bool d1.opn, .slice r1.A3 d1.kills.length r1.c3, .int .i64 d1.top, .int .i64 1, .int .i64 d1.fr, .int .i64 d1.to_] := by rw [← hW6]; exact ht6.set 7 _
 have ho7 : Only (fun i => i = w.heap.size) w5 W6 := by rw [← hW6]; exact ho6.set (p := ⟨w.heap.size, 7, none⟩) (.inl rfl) _
 have hm6 : BxA W6 (w.heap.size + 1) 32 dsZ := hm5.keep ho7 (fun e => by omega)
 have hB5 := HBc.out.trans (a4.mono HBc.out.size)
 have hB6 : Below w.heap.size w W6 := hB5.trans (ho7.below hB5.size (fun i (hi : i = _) => by omega))
 have hD6 := a1.keep ho7 (fun k hk (e : k = _) => (a3 k hk).elim (fun h1 => by have := HD.out.lt k h1; omega) (fun h1 => by omega))
 have hs6 : w3.heap.size ≤ W6.heap.size := Nat.le_trans a4.size ho7.size
 have HD6 := hid hD6
 have HO1 := hid a2
 have H3 := hid a3
 have HB6 := hid hB6
 have H06 := hid h06
 have HM6 := hid hm6
 have HS6 := hid hs6
 have Hg6 := hid hg6
 clear a1 a2 a3 a4 h05 hm5 ht6 ho6 ho7 hB5 hB6 hD6 hs6 hg6 h06 hm6 HCt hlc
 clear c0 c1 c2 c3 c4 c5 c6 c7 c8 c9
 rcases Classical.em (g = []) with hge | hge
 ·subst hge
  have HX := HM6
  have h06 := H06.out
  have hm6 := HM6.out
  have c0 := h06.c 0 rfl
  have c1 := h06.c 1 rfl
  have c2 := h06.c 2 rfl
  have c3 := h06.c 3 rfl
  have c4 := h06.c 4 rfl
  have c5 := h06.c 5 rfl
  have c6 := h06.c 6 rfl
  have c7 := h06.c 7 rfl
  have c8 := h06.c 8 rfl
  have c9 := h06.c 9 rfl
  have e0 := hm6.c 0 rfl
  have e1 := hm6.c 1 rfl
  have e2 := hm6.c 2 rfl
  have e3 := hm6.c 3 rfl
  have e4 := hm6.c 4 rfl
  have e5 := hm6.c 5 rfl
  have e6 := hm6.c 6 rfl
  have e7 := hm6.c 7 rfl
  have e8 := hm6.c 8 rfl
  have e9 := hm6.c 9 rfl
  have f0 := hm6.free 0
  have f1 := hm6.free 1
  have f2 := hm6.free 2
  have f3 := hm6.free 3
  have f4 := hm6.free 4
  have f5 := hm6.free 5
  have f6 := hm6.free 6
  have f7 := hm6.free 7
  have f8 := hm6.free 8
  have f9 := hm6.free 9
  clear h06 hm6
  (try unfold dsV)
  go_wp2_with fail
  refine bodyPost_ret (results_bx10 rfl _ _ ((w.heap.size + 1)) _ _ _ _ _ _ _ _ _ _ 32 rfl (ten_box HX.out _ _ _ _ _ _ _ _ _ _) Tryz.underlying32 (szS _)) rfl ?_
  exact ⟨r1, ⟨d1.now, d1.back, d1.forth, d1.opn, d1.kills, d1.top, 1, d1.fr, d1.to_⟩, rfl, dsin_fin2 (M := w.heap.size + 1) (d := ⟨d1.now, d1.back, d1.forth, d1.opn, d1.kills, d1.top, 1, d1.fr, d1.to_⟩) HD.out ⟨D1, HD6.out.same rfl rfl rfl, ⟨HO1.out.more.now, HO1.out.more.back, HO1.out.more.forth, HO1.out.more.len, HO1.out.more.kills, HO1.out.more.small, HO1.out.more.top⟩, H3.out⟩ HB6.out (by omega) (by have := HLc.out; omega) _ _ _ _ _ _ _ _ _ _ (by have := HLc.out; omega)⟩
 ·have hgi : g.isEmpty = false := by cases g with | nil => exact absurd rfl hge | cons => rfl
  clear hge
  have hk6 := HD6.out.kills
  obtain ⟨A1, q1, w7, hr1, hb7, hown1⟩ := kcopy W6 hk6 HO1.out.kills
  have h06 := H06.out
  have hm6 := HM6.out
  have h07 := h06.below hb7
  have hm7 := hm6.below hb7
  have HD7 := hid (HD6.out.below hb7)
  have HB7 := hid (HB6.out.trans (hb7.mono HB6.out.size))
  have H07 := hid h07
  have HM7 := hid hm7
  have Hown1 := hid hown1
  have Hr1 := hid hr1
  have HS7 : Hid (w3.heap.size ≤ w7.heap.size) := hid (Nat.le_trans HS6.out hb7.size)
  have HBw67 := hid hb7
  have c0 := h06.c 0 rfl
  have c1 := h06.c 1 rfl
  have c2 := h06.c 2 rfl
  have c3 := h06.c 3 rfl
  have c4 := h06.c 4 rfl
  have c5 := h06.c 5 rfl
  have c6 := h06.c 6 rfl
  have c7 := h06.c 7 rfl
  have c8 := h06.c 8 rfl
  have c9 := h06.c 9 rfl
  have hpk := h06.alloc (.cells #[] 9)
  have p5 := hpk.c 5 rfl
  clear hk6 h06 hm6 h07 hm7 hb7 hown1 hr1 hpk
  have hkl := HO1.out.kills
  rcases Classical.em (was = true ∧ d1.kills ≠ []) with hwk | hwk
  ·obtain ⟨hw_, hks⟩ := hwk
   subst hw_
   have hz0 : ((d1.kills.length : Int) == 0) = false := beq_eq_false_iff_ne.2 (by have := List.length_pos_iff.2 hks; omega)
   obtain ⟨x0, rest, hxr⟩ : ∃ x0 rest, d1.kills = x0 :: rest := List.exists_cons_of_ne_nil hks
   have hown1 := Hown1.out
   rw [hxr] at hown1
   obtain ⟨g1, hA1, hgb, hgl, hfz, hx0, hset⟩ := own_first7 hown1
   subst hA1
   have hx0s : x0.size ≤ B := HO1.out.small x0 (by rw [hxr]; simp)
   have hgs := Hg6.out
   have hgz := bs_size g
   have hcat : ¬ (9223372036854775807 < g.length + x0.size) := by omega
   obtain ⟨w8, hw8⟩ : ∃ w8, w7.setCell ⟨g1, 0, none⟩ (.string (bs g ++ x0)) = w8 := ⟨_, rfl⟩
   have hrow8 := rowD_of_own (by simp) (hset (bs g ++ x0))
   rw [hw8] at hrow8
   have ho8 : Only (fun i => i = g1) w7 w8 := by rw [← hw8]; exact only_set w7 ⟨g1, 0, none⟩ _
   have hS6 := HS6.out
   have hLc := HLc.out
   have hB78 : Below w.heap.size w w8 := HB7.out.trans (ho8.below HB7.out.size (fun i (hi : i = g1) => by omega))
   have h08 := H07.out.keep ho8 (fun (e : _ = g1) => by omega)
   have hm8 := HM7.out.keep ho8 (fun (e : _ = g1) => by omega)
   have hD8 := HD6.out.below HBw67.out |>.keep (R := fun i => W6.heap.size ≤ i) (ho8.mono (fun i (e : i = g1) => .inl (by omega))) (fun k hk h2 => by have := HD6.out.lt k hk; omega)
   have H08 := hid h08
   have HM8 := hid hm8
   have HD8 := hid hD8
   have HB8 := hid hB78
   have Hrow8 := hid hrow8
   have HS6' : Hid (w3.heap.size ≤ W6.heap.size) := HS6
   clear hown1 hgb hset hrow8 ho8 hS6 hLc hB78 h08 hm8 hD8
   obtain ⟨W9, hW9⟩ : ∃ W9, (w8.setCell ⟨w.heap.size, 5, none⟩ (.slice (some ⟨g1, 0, none⟩) d1.kills.length q1)).setCell ⟨w.heap.size, 6, none⟩ (.int .i64 0) = W9 := ⟨_, rfl⟩
   have h09 : BxA W9 w.heap.size 32 [.string (bs d1.now.1), .int .i64 d1.now.2, .slice r1.A1 d1.back.length r1.c1, .slice r1.A2 d1.forth.length r1.c2, .bool d1.opn, .slice (some ⟨g1, 0, none⟩) d1.kills.length q1, .int .i64 0, .int .i64 1, .int .i64 d1.fr, .int .i64 d1.to_] := by rw [← hW9]; exact (H08.out.set 5 _).set 6 _
   have hm9 : BxA W9 (w.heap.size + 1) 32 dsZ := by rw [← hW9]; exact (HM8.out.other (by omega) _).other (by omega) _
   have ho9 : Only (fun i => i = w.heap.size) w8 W9 := by rw [← hW9]; exact ((Only.refl (fun i => i = w.heap.size) w8).set (p := ⟨w.heap.size, 5, none⟩) (.inl rfl) _).set (p := ⟨w.heap.size, 6, none⟩) (.inl rfl) _
   have hB9 := (HB8.out).trans (ho9.below (HB8.out).size (fun i (hi : i = _) => by omega))
   have hat9 := (HD8.out).keep ho9 (fun k hk (e : k = _) => (H3.out k hk).elim (fun h1 => by have := HD.out.lt k h1; omega) (fun h1 => by have := HLc.out; omega))
   have hrow9 := (Hrow8.out).keep ho9 (fun k hk (e : k = _) => by have := HLc.out; have := HS6.out; omega)
   have hfin := kill_end HD.out hat9 HO1.out H3.out hB9 (hrow9.mono (D' := fun k => w3.heap.size ≤ k ∧ k < W9.heap.size) (fun k hk => ⟨by have := HS6.out; omega, Nat.lt_of_lt_of_le hk.2 ho9.size⟩)) (by have := hkl; rw [hxr] at this; simpa using this) (fun x hx => (List.mem_cons.1 hx).elim (fun h1 => by rw [h1, ByteArray.size_append]; omega) (fun h1 => Nat.le_trans (HO1.out.small x (by rw [hxr]; exact List.mem_cons_of_mem _ h1)) (by omega))) (by simp <;> omega) (by have := HLc.out; omega) (M := (w.heap.size + 1)) (by omega) (by have := HLc.out; omega) (.string (bs d1.now.1)) (.int .i64 d1.now.2) (.slice r1.A1 d1.back.length r1.c1) (.slice r1.A2 d1.forth.length r1.c2) (.bool d1.opn) (.slice (some ⟨g1, 0, none⟩) d1.kills.length q1) (.int .i64 0) (.int .i64 1) (.int .i64 d1.fr) (.int .i64 d1.to_)
   have HF := hid hfin
   have HX := hid hm9
   have h08x := H08.out
   have k5 := h08x.c 5 rfl
   have k6 := h08x.c 6 rfl
   have u5 := h08x.free 5
   have u6 := h08x.free 6
   have c0 := h09.c 0 rfl
   have c1 := h09.c 1 rfl
   have c2 := h09.c 2 rfl
   have c3 := h09.c 3 rfl
   have c4 := h09.c 4 rfl
   have c5 := h09.c 5 rfl
   have c6 := h09.c 6 rfl
   have c7 := h09.c 7 rfl
   have c8 := h09.c 8 rfl
   have c9 := h09.c 9 rfl
   have e0 := hm9.c 0 rfl
   have e1 := hm9.c 1 rfl
   have e2 := hm9.c 2 rfl
   have e3 := hm9.c 3 rfl
   have e4 := hm9.c 4 rfl
   have e5 := hm9.c 5 rfl
   have e6 := hm9.c 6 rfl
   have e7 := hm9.c 7 rfl
   have e8 := hm9.c 8 rfl
   have e9 := hm9.c 9 rfl
   have f0 := hm9.free 0
   have f1 := hm9.free 1
   have f2 := hm9.free 2
   have f3 := hm9.free 3
   have f4 := hm9.free 4
   have f5 := hm9.free 5
   have f6 := hm9.free 6
   have f7 := hm9.free 7
   have f8 := hm9.free 8
   have f9 := hm9.free 9
   clear h09 hm9 ho9 hB9 hat9 hrow9 hfin h08x
   have hlT : ((bs g ++ x0) :: rest).length = d1.kills.length := by rw [hxr]; rfl
   have HLT := hid hlT
   have hi1 : 0 < d1.kills.length := by rw [hxr]; simp
   have hi2 : (0 : Int) < (d1.kills.length : Int) := by omega
   clear hlT hxr hgl
   (try unfold dsV)
   go_wp2_with (at_builtin; refine wpList_append_g (o := ⟨some 54, _, _, _, _, _⟩) (by kernel_rfl) (.tmp 51) (.tmp 53) 30 rfl _ _ rfl rfl Hr1.out ?_)
   refine bodyPost_ret (results_bx10 rfl _ _ ((w.heap.size + 1)) _ _ _ _ _ _ _ _ _ _ 32 rfl (ten_box HX.out _ _ _ _ _ _ _ _ _ _) Tryz.underlying32 (szS _)) rfl ?_
   refine ⟨_, _, ?_, HF.out⟩
   (try unfold dsV)
   simp only [HLT.out]
   (try rfl)
  ·cases was with
   | false =>
    have Hown1' := Hown1.out
    obtain ⟨A2, q2, w8, hr2, hb8, hown2⟩ := kcons w7 (bs g) Hown1' hkl
    have Hr2 := hid hr2
    have h08 := H07.out.below hb8
    have hm8 := HM7.out.below hb8
    have H08 := hid h08
    have HM8 := hid hm8
    have HD8 := hid (HD7.out.below hb8)
    have HB8 := hid (HB7.out.trans (hb8.mono HB7.out.size))
    have Hrow2 := hid (rowD_of_own (by simp; omega) hown2)
    obtain ⟨g2, hA2, _⟩ := own_first7 hown2
    subst hA2
    clear Hown1' hr2 hb8 hown2 h08 hm8
    by_cases hbig : 8 < 1 + d1.kills.length
    ·have hd1 : decide ((8 : Int) < ((1 + d1.kills.length : Nat) : Int)) = true := decide_eq_true (by omega)
     have hd2 : (8 : Int) < ((1 + d1.kills.length : Nat) : Int) := by omega
     have hd3 : (8 : Int) < 1 + (d1.kills.length : Int) := by omega
     have hq2 := Hrow2.out.le
     have hq3 : 8 ≤ q2 := by have := hq2; simp at this; omega
     have hq4 : (8 : Int) ≤ (q2 : Int) := by omega
     clear hq2
     obtain ⟨W9, hW9⟩ : ∃ W9, (w8.setCell ⟨w.heap.size, 5, none⟩ (.slice (some ⟨g2, 0, none⟩) 8 q2)).setCell ⟨w.heap.size, 6, none⟩ (.int .i64 0) = W9 := ⟨_, rfl⟩
     have h09 : BxA W9 w.heap.size 32 [.string (bs d1.now.1), .int .i64 d1.now.2, .slice r1.A1 d1.back.length r1.c1, .slice r1.A2 d1.forth.length r1.c2, .bool d1.opn, .slice (some ⟨g2, 0, none⟩) 8 q2, .int .i64 0, .int .i64 1, .int .i64 d1.fr, .int .i64 d1.to_] := by rw [← hW9]; exact (H08.out.set 5 _).set 6 _
     have hm9 : BxA W9 (w.heap.size + 1) 32 dsZ := by rw [← hW9]; exact (HM8.out.other (by omega) _).other (by omega) _
     have ho9 : Only (fun i => i = w.heap.size) w8 W9 := by rw [← hW9]; exact ((Only.refl (fun i => i = w.heap.size) w8).set (p := ⟨w.heap.size, 5, none⟩) (.inl rfl) _).set (p := ⟨w.heap.size, 6, none⟩) (.inl rfl) _
     have hB9 := (HB8.out).trans (ho9.below (HB8.out).size (fun i (hi : i = _) => by omega))
     have hat9 := (HD8.out).keep ho9 (fun k hk (e : k = _) => (H3.out k hk).elim (fun h1 => by have := HD.out.lt k h1; omega) (fun h1 => by have := HLc.out; omega))
     have hrow9 := ((⟨Hrow2.out.row.take strC_length 8, by simp; omega, Hrow2.out.max, Hrow2.out.nil⟩ : RowD strC w8 (fun k => w7.heap.size ≤ k ∧ k < w8.heap.size) (some ⟨g2, 0, none⟩) q2 ((bs g :: d1.kills).take 8))).keep ho9 (fun k hk (e : k = _) => by have := HLc.out; have := HS7.out; omega)
     have hfin := kill_end HD.out hat9 HO1.out H3.out hB9 (hrow9.mono (D' := fun k => w3.heap.size ≤ k ∧ k < W9.heap.size) (fun k hk => ⟨by have := HS7.out; omega, Nat.lt_of_lt_of_le hk.2 ho9.size⟩)) (by rw [List.length_take]; omega) (fun x hx => ksmallDocM Hg6.out HO1.out.small x (List.mem_of_mem_take hx)) (by simp <;> omega) (by have := HLc.out; omega) (M := (w.heap.size + 1)) (by omega) (by have := HLc.out; omega) (.string (bs d1.now.1)) (.int .i64 d1.now.2) (.slice r1.A1 d1.back.length r1.c1) (.slice r1.A2 d1.forth.length r1.c2) (.bool d1.opn) (.slice (some ⟨g2, 0, none⟩) 8 q2) (.int .i64 0) (.int .i64 1) (.int .i64 d1.fr) (.int .i64 d1.to_)
     have HF := hid hfin
     have HX := hid hm9
     have h08x := H08.out
     have k5 := h08x.c 5 rfl
     have k6 := h08x.c 6 rfl
     have u5 := h08x.free 5
     have u6 := h08x.free 6
     have c0 := h09.c 0 rfl
     have c1 := h09.c 1 rfl
     have c2 := h09.c 2 rfl
     have c3 := h09.c 3 rfl
     have c4 := h09.c 4 rfl
     have c5 := h09.c 5 rfl
     have c6 := h09.c 6 rfl
     have c7 := h09.c 7 rfl
     have c8 := h09.c 8 rfl
     have c9 := h09.c 9 rfl
     have e0 := hm9.c 0 rfl
     have e1 := hm9.c 1 rfl
     have e2 := hm9.c 2 rfl
     have e3 := hm9.c 3 rfl
     have e4 := hm9.c 4 rfl
     have e5 := hm9.c 5 rfl
     have e6 := hm9.c 6 rfl
     have e7 := hm9.c 7 rfl
     have e8 := hm9.c 8 rfl
     have e9 := hm9.c 9 rfl
     have f0 := hm9.free 0
     have f1 := hm9.free 1
     have f2 := hm9.free 2
     have f3 := hm9.free 3
     have f4 := hm9.free 4
     have f5 := hm9.free 5
     have f6 := hm9.free 6
     have f7 := hm9.free 7
     have f8 := hm9.free 8
     have f9 := hm9.free 9
     clear h09 hm9 ho9 hB9 hat9 hrow9 hfin h08x
     have hlT : ((bs g :: d1.kills).take 8).length = 8 := by simp; omega
     have HLT := hid hlT
     clear hlT
     (try unfold dsV)
     go_wp2_with (first | (at_builtin; refine wpList_append_g (o := ⟨some 54, _, _, _, _, _⟩) (by kernel_rfl) (.tmp 51) (.tmp 53) 30 rfl _ _ rfl rfl Hr1.out ?_) | (at_builtin; refine wpList_append_g (o := ⟨some 65, _, _, _, _, _⟩) (by kernel_rfl) (.tmp 63) (.tmp 64) 30 rfl _ _ rfl rfl Hr2.out ?_))
     refine bodyPost_ret (results_bx10 rfl _ _ ((w.heap.size + 1)) _ _ _ _ _ _ _ _ _ _ 32 rfl (ten_box HX.out _ _ _ _ _ _ _ _ _ _) Tryz.underlying32 (szS _)) rfl ?_
     refine ⟨_, _, ?_, HF.out⟩
     (try unfold dsV)
     simp only [HLT.out]
     (try rfl)
    ·have hd1 : decide ((8 : Int) < ((1 + d1.kills.length : Nat) : Int)) = false := decide_eq_false (by omega)
     have hd2 : ¬ (8 : Int) < ((1 + d1.kills.length : Nat) : Int) := by omega
     have hd3 : ¬ (8 : Int) < 1 + (d1.kills.length : Int) := by omega
     obtain ⟨W9, hW9⟩ : ∃ W9, (w8.setCell ⟨w.heap.size, 5, none⟩ (.slice (some ⟨g2, 0, none⟩) (1 + d1.kills.length) q2)).setCell ⟨w.heap.size, 6, none⟩ (.int .i64 0) = W9 := ⟨_, rfl⟩
     have h09 : BxA W9 w.heap.size 32 [.string (bs d1.now.1), .int .i64 d1.now.2, .slice r1.A1 d1.back.length r1.c1, .slice r1.A2 d1.forth.length r1.c2, .bool d1.opn, .slice (some ⟨g2, 0, none⟩) (1 + d1.kills.length) q2, .int .i64 0, .int .i64 1, .int .i64 d1.fr, .int .i64 d1.to_] := by rw [← hW9]; exact (H08.out.set 5 _).set 6 _
     have hm9 : BxA W9 (w.heap.size + 1) 32 dsZ := by rw [← hW9]; exact (HM8.out.other (by omega) _).other (by omega) _
     have ho9 : Only (fun i => i = w.heap.size) w8 W9 := by rw [← hW9]; exact ((Only.refl (fun i => i = w.heap.size) w8).set (p := ⟨w.heap.size, 5, none⟩) (.inl rfl) _).set (p := ⟨w.heap.size, 6, none⟩) (.inl rfl) _
     have hB9 := (HB8.out).trans (ho9.below (HB8.out).size (fun i (hi : i = _) => by omega))
     have hat9 := (HD8.out).keep ho9 (fun k hk (e : k = _) => (H3.out k hk).elim (fun h1 => by have := HD.out.lt k h1; omega) (fun h1 => by have := HLc.out; omega))
     have hrow9 := (Hrow2.out).keep ho9 (fun k hk (e : k = _) => by have := HLc.out; have := HS7.out; omega)
     have hfin := kill_end HD.out hat9 HO1.out H3.out hB9 (hrow9.mono (D' := fun k => w3.heap.size ≤ k ∧ k < W9.heap.size) (fun k hk => ⟨by have := HS7.out; omega, Nat.lt_of_lt_of_le hk.2 ho9.size⟩)) (by simp; omega) (fun x hx => ksmallDocM Hg6.out HO1.out.small x hx) (by simp <;> omega) (by have := HLc.out; omega) (M := (w.heap.size + 1)) (by omega) (by have := HLc.out; omega) (.string (bs d1.now.1)) (.int .i64 d1.now.2) (.slice r1.A1 d1.back.length r1.c1) (.slice r1.A2 d1.forth.length r1.c2) (.bool d1.opn) (.slice (some ⟨g2, 0, none⟩) (1 + d1.kills.length) q2) (.int .i64 0) (.int .i64 1) (.int .i64 d1.fr) (.int .i64 d1.to_)
     have HF := hid hfin
     have HX := hid hm9
     have h08x := H08.out
     have k5 := h08x.c 5 rfl
     have k6 := h08x.c 6 rfl
     have u5 := h08x.free 5
     have u6 := h08x.free 6
     have c0 := h09.c 0 rfl
     have c1 := h09.c 1 rfl
     have c2 := h09.c 2 rfl
     have c3 := h09.c 3 rfl
     have c4 := h09.c 4 rfl
     have c5 := h09.c 5 rfl
     have c6 := h09.c 6 rfl
     have c7 := h09.c 7 rfl
     have c8 := h09.c 8 rfl
     have c9 := h09.c 9 rfl
     have e0 := hm9.c 0 rfl
     have e1 := hm9.c 1 rfl
     have e2 := hm9.c 2 rfl
     have e3 := hm9.c 3 rfl
     have e4 := hm9.c 4 rfl
     have e5 := hm9.c 5 rfl
     have e6 := hm9.c 6 rfl
     have e7 := hm9.c 7 rfl
     have e8 := hm9.c 8 rfl
     have e9 := hm9.c 9 rfl
     have f0 := hm9.free 0
     have f1 := hm9.free 1
     have f2 := hm9.free 2
     have f3 := hm9.free 3
     have f4 := hm9.free 4
     have f5 := hm9.free 5
     have f6 := hm9.free 6
     have f7 := hm9.free 7
     have f8 := hm9.free 8
     have f9 := hm9.free 9
     clear h09 hm9 ho9 hB9 hat9 hrow9 hfin h08x
     have hlT : (bs g :: d1.kills).length = 1 + d1.kills.length := by simp; omega
     have HLT := hid hlT
     clear hlT
     (try unfold dsV)
     go_wp2_with (first | (at_builtin; refine wpList_append_g (o := ⟨some 54, _, _, _, _, _⟩) (by kernel_rfl) (.tmp 51) (.tmp 53) 30 rfl _ _ rfl rfl Hr1.out ?_) | (at_builtin; refine wpList_append_g (o := ⟨some 65, _, _, _, _, _⟩) (by kernel_rfl) (.tmp 63) (.tmp 64) 30 rfl _ _ rfl rfl Hr2.out ?_))
     refine bodyPost_ret (results_bx10 rfl _ _ ((w.heap.size + 1)) _ _ _ _ _ _ _ _ _ _ 32 rfl (ten_box HX.out _ _ _ _ _ _ _ _ _ _) Tryz.underlying32 (szS _)) rfl ?_
     refine ⟨_, _, ?_, HF.out⟩
     (try unfold dsV)
     simp only [HLT.out]
     (try rfl)
   | true =>
    have hks : d1.kills = [] := Classical.byContradiction fun hc => hwk ⟨rfl, hc⟩
    have hz0 : ((d1.kills.length : Int) == 0) = true := by rw [hks]; rfl
    clear hks
    have Hown1' := Hown1.out
    obtain ⟨A2, q2, w8, hr2, hb8, hown2⟩ := kcons w7 (bs g) Hown1' hkl
    have Hr2 := hid hr2
    have h08 := H07.out.below hb8
    have hm8 := HM7.out.below hb8
    have H08 := hid h08
    have HM8 := hid hm8
    have HD8 := hid (HD7.out.below hb8)
    have HB8 := hid (HB7.out.trans (hb8.mono HB7.out.size))
    have Hrow2 := hid (rowD_of_own (by simp; omega) hown2)
    obtain ⟨g2, hA2, _⟩ := own_first7 hown2
    subst hA2
    clear Hown1' hr2 hb8 hown2 h08 hm8
    by_cases hbig : 8 < 1 + d1.kills.length
    ·have hd1 : decide ((8 : Int) < ((1 + d1.kills.length : Nat) : Int)) = true := decide_eq_true (by omega)
     have hd2 : (8 : Int) < ((1 + d1.kills.length : Nat) : Int) := by omega
     have hd3 : (8 : Int) < 1 + (d1.kills.length : Int) := by omega
     have hq2 := Hrow2.out.le
     have hq3 : 8 ≤ q2 := by have := hq2; simp at this; omega
     have hq4 : (8 : Int) ≤ (q2 : Int) := by omega
     clear hq2
     obtain ⟨W9, hW9⟩ : ∃ W9, (w8.setCell ⟨w.heap.size, 5, none⟩ (.slice (some ⟨g2, 0, none⟩) 8 q2)).setCell ⟨w.heap.size, 6, none⟩ (.int .i64 0) = W9 := ⟨_, rfl⟩
     have h09 : BxA W9 w.heap.size 32 [.string (bs d1.now.1), .int .i64 d1.now.2, .slice r1.A1 d1.back.length r1.c1, .slice r1.A2 d1.forth.length r1.c2, .bool d1.opn, .slice (some ⟨g2, 0, none⟩) 8 q2, .int .i64 0, .int .i64 1, .int .i64 d1.fr, .int .i64 d1.to_] := by rw [← hW9]; exact (H08.out.set 5 _).set 6 _
     have hm9 : BxA W9 (w.heap.size + 1) 32 dsZ := by rw [← hW9]; exact (HM8.out.other (by omega) _).other (by omega) _
     have ho9 : Only (fun i => i = w.heap.size) w8 W9 := by rw [← hW9]; exact ((Only.refl (fun i => i = w.heap.size) w8).set (p := ⟨w.heap.size, 5, none⟩) (.inl rfl) _).set (p := ⟨w.heap.size, 6, none⟩) (.inl rfl) _
     have hB9 := (HB8.out).trans (ho9.below (HB8.out).size (fun i (hi : i = _) => by omega))
     have hat9 := (HD8.out).keep ho9 (fun k hk (e : k = _) => (H3.out k hk).elim (fun h1 => by have := HD.out.lt k h1; omega) (fun h1 => by have := HLc.out; omega))
     have hrow9 := ((⟨Hrow2.out.row.take strC_length 8, by simp; omega, Hrow2.out.max, Hrow2.out.nil⟩ : RowD strC w8 (fun k => w7.heap.size ≤ k ∧ k < w8.heap.size) (some ⟨g2, 0, none⟩) q2 ((bs g :: d1.kills).take 8))).keep ho9 (fun k hk (e : k = _) => by have := HLc.out; have := HS7.out; omega)
     have hfin := kill_end HD.out hat9 HO1.out H3.out hB9 (hrow9.mono (D' := fun k => w3.heap.size ≤ k ∧ k < W9.heap.size) (fun k hk => ⟨by have := HS7.out; omega, Nat.lt_of_lt_of_le hk.2 ho9.size⟩)) (by rw [List.length_take]; omega) (fun x hx => ksmallDocM Hg6.out HO1.out.small x (List.mem_of_mem_take hx)) (by simp <;> omega) (by have := HLc.out; omega) (M := (w.heap.size + 1)) (by omega) (by have := HLc.out; omega) (.string (bs d1.now.1)) (.int .i64 d1.now.2) (.slice r1.A1 d1.back.length r1.c1) (.slice r1.A2 d1.forth.length r1.c2) (.bool d1.opn) (.slice (some ⟨g2, 0, none⟩) 8 q2) (.int .i64 0) (.int .i64 1) (.int .i64 d1.fr) (.int .i64 d1.to_)
     have HF := hid hfin
     have HX := hid hm9
     have h08x := H08.out
     have k5 := h08x.c 5 rfl
     have k6 := h08x.c 6 rfl
     have u5 := h08x.free 5
     have u6 := h08x.free 6
     have c0 := h09.c 0 rfl
     have c1 := h09.c 1 rfl
     have c2 := h09.c 2 rfl
     have c3 := h09.c 3 rfl
     have c4 := h09.c 4 rfl
     have c5 := h09.c 5 rfl
     have c6 := h09.c 6 rfl
     have c7 := h09.c 7 rfl
     have c8 := h09.c 8 rfl
     have c9 := h09.c 9 rfl
     have e0 := hm9.c 0 rfl
     have e1 := hm9.c 1 rfl
     have e2 := hm9.c 2 rfl
     have e3 := hm9.c 3 rfl
     have e4 := hm9.c 4 rfl
     have e5 := hm9.c 5 rfl
     have e6 := hm9.c 6 rfl
     have e7 := hm9.c 7 rfl
     have e8 := hm9.c 8 rfl
     have e9 := hm9.c 9 rfl
     have f0 := hm9.free 0
     have f1 := hm9.free 1
     have f2 := hm9.free 2
     have f3 := hm9.free 3
     have f4 := hm9.free 4
     have f5 := hm9.free 5
     have f6 := hm9.free 6
     have f7 := hm9.free 7
     have f8 := hm9.free 8
     have f9 := hm9.free 9
     clear h09 hm9 ho9 hB9 hat9 hrow9 hfin h08x
     have hlT : ((bs g :: d1.kills).take 8).length = 8 := by simp; omega
     have HLT := hid hlT
     clear hlT
     (try unfold dsV)
     go_wp2_with (first | (at_builtin; refine wpList_append_g (o := ⟨some 54, _, _, _, _, _⟩) (by kernel_rfl) (.tmp 51) (.tmp 53) 30 rfl _ _ rfl rfl Hr1.out ?_) | (at_builtin; refine wpList_append_g (o := ⟨some 65, _, _, _, _, _⟩) (by kernel_rfl) (.tmp 63) (.tmp 64) 30 rfl _ _ rfl rfl Hr2.out ?_))
     refine bodyPost_ret (results_bx10 rfl _ _ ((w.heap.size + 1)) _ _ _ _ _ _ _ _ _ _ 32 rfl (ten_box HX.out _ _ _ _ _ _ _ _ _ _) Tryz.underlying32 (szS _)) rfl ?_
     refine ⟨_, _, ?_, HF.out⟩
     (try unfold dsV)
     simp only [HLT.out]
     (try rfl)
    ·have hd1 : decide ((8 : Int) < ((1 + d1.kills.length : Nat) : Int)) = false := decide_eq_false (by omega)
     have hd2 : ¬ (8 : Int) < ((1 + d1.kills.length : Nat) : Int) := by omega
     have hd3 : ¬ (8 : Int) < 1 + (d1.kills.length : Int) := by omega
     obtain ⟨W9, hW9⟩ : ∃ W9, (w8.setCell ⟨w.heap.size, 5, none⟩ (.slice (some ⟨g2, 0, none⟩) (1 + d1.kills.length) q2)).setCell ⟨w.heap.size, 6, none⟩ (.int .i64 0) = W9 := ⟨_, rfl⟩
     have h09 : BxA W9 w.heap.size 32 [.string (bs d1.now.1), .int .i64 d1.now.2, .slice r1.A1 d1.back.length r1.c1, .slice r1.A2 d1.forth.length r1.c2, .bool d1.opn, .slice (some ⟨g2, 0, none⟩) (1 + d1.kills.length) q2, .int .i64 0, .int .i64 1, .int .i64 d1.fr, .int .i64 d1.to_] := by rw [← hW9]; exact (H08.out.set 5 _).set 6 _
     have hm9 : BxA W9 (w.heap.size + 1) 32 dsZ := by rw [← hW9]; exact (HM8.out.other (by omega) _).other (by omega) _
     have ho9 : Only (fun i => i = w.heap.size) w8 W9 := by rw [← hW9]; exact ((Only.refl (fun i => i = w.heap.size) w8).set (p := ⟨w.heap.size, 5, none⟩) (.inl rfl) _).set (p := ⟨w.heap.size, 6, none⟩) (.inl rfl) _
     have hB9 := (HB8.out).trans (ho9.below (HB8.out).size (fun i (hi : i = _) => by omega))
     have hat9 := (HD8.out).keep ho9 (fun k hk (e : k = _) => (H3.out k hk).elim (fun h1 => by have := HD.out.lt k h1; omega) (fun h1 => by have := HLc.out; omega))
     have hrow9 := (Hrow2.out).keep ho9 (fun k hk (e : k = _) => by have := HLc.out; have := HS7.out; omega)
     have hfin := kill_end HD.out hat9 HO1.out H3.out hB9 (hrow9.mono (D' := fun k => w3.heap.size ≤ k ∧ k < W9.heap.size) (fun k hk => ⟨by have := HS7.out; omega, Nat.lt_of_lt_of_le hk.2 ho9.size⟩)) (by simp; omega) (fun x hx => ksmallDocM Hg6.out HO1.out.small x hx) (by simp <;> omega) (by have := HLc.out; omega) (M := (w.heap.size + 1)) (by omega) (by have := HLc.out; omega) (.string (bs d1.now.1)) (.int .i64 d1.now.2) (.slice r1.A1 d1.back.length r1.c1) (.slice r1.A2 d1.forth.length r1.c2) (.bool d1.opn) (.slice (some ⟨g2, 0, none⟩) (1 + d1.kills.length) q2) (.int .i64 0) (.int .i64 1) (.int .i64 d1.fr) (.int .i64 d1.to_)
     have HF := hid hfin
     have HX := hid hm9
     have h08x := H08.out
     have k5 := h08x.c 5 rfl
     have k6 := h08x.c 6 rfl
     have u5 := h08x.free 5
     have u6 := h08x.free 6
     have c0 := h09.c 0 rfl
     have c1 := h09.c 1 rfl
     have c2 := h09.c 2 rfl
     have c3 := h09.c 3 rfl
     have c4 := h09.c 4 rfl
     have c5 := h09.c 5 rfl
     have c6 := h09.c 6 rfl
     have c7 := h09.c 7 rfl
     have c8 := h09.c 8 rfl
     have c9 := h09.c 9 rfl
     have e0 := hm9.c 0 rfl
     have e1 := hm9.c 1 rfl
     have e2 := hm9.c 2 rfl
     have e3 := hm9.c 3 rfl
     have e4 := hm9.c 4 rfl
     have e5 := hm9.c 5 rfl
     have e6 := hm9.c 6 rfl
     have e7 := hm9.c 7 rfl
     have e8 := hm9.c 8 rfl
     have e9 := hm9.c 9 rfl
     have f0 := hm9.free 0
     have f1 := hm9.free 1
     have f2 := hm9.free 2
     have f3 := hm9.free 3
     have f4 := hm9.free 4
     have f5 := hm9.free 5
     have f6 := hm9.free 6
     have f7 := hm9.free 7
     have f8 := hm9.free 8
     have f9 := hm9.free 9
     clear h09 hm9 ho9 hB9 hat9 hrow9 hfin h08x
     have hlT : (bs g :: d1.kills).length = 1 + d1.kills.length := by simp; omega
     have HLT := hid hlT
     clear hlT
     (try unfold dsV)
     go_wp2_with (first | (at_builtin; refine wpList_append_g (o := ⟨some 54, _, _, _, _, _⟩) (by kernel_rfl) (.tmp 51) (.tmp 53) 30 rfl _ _ rfl rfl Hr1.out ?_) | (at_builtin; refine wpList_append_g (o := ⟨some 65, _, _, _, _, _⟩) (by kernel_rfl) (.tmp 63) (.tmp 64) 30 rfl _ _ rfl rfl Hr2.out ?_))
     refine bodyPost_ret (results_bx10 rfl _ _ ((w.heap.size + 1)) _ _ _ _ _ _ _ _ _ _ 32 rfl (ten_box HX.out _ _ _ _ _ _ _ _ _ _) Tryz.underlying32 (szS _)) rfl ?_
     refine ⟨_, _, ?_, HF.out⟩
     (try unfold dsV)
     simp only [HLT.out]
     (try rfl)
set_option maxHeartbeats 16000000 in
theorem dkill_w14 (w : World) (D : Nat → Prop) (r : DR) (d : DS) (B : Nat) (h : DsAt w D r d) (hok : d.Ok B) (hB8 : B ≤ 1000000) (was : Bool) :
  Calls Tryz.prog 64 #[dsV r d, .int .i64 14, .bool was] w fun e w' => ∃ r' d', e = .returned (dsV r' d') ∧ DsTo w D (B + 600) w' r' d' := by
 obtain ⟨W2, hW2, hB2, hs2, hb0, hb1⟩ := boxes7 w r d
 have h0x := hb0.alloc (.cells #[.string (bs d.now.1), .int .i64 d.now.2] 28)
 have hmx := hb1.alloc (.cells #[.string (bs d.now.1), .int .i64 d.now.2] 28)
 have hkx := Bx.new W2 28 (.string (bs d.now.1)) (.int .i64 d.now.2)
 have hBx : Below w.heap.size w (W2.alloc (.cells #[.string (bs d.now.1), .int .i64 d.now.2] 28)) := hB2.alloc hB2.size _
 have hszn := bs_size d.now.1
 have a0 := hb0.c 0 rfl
 have a1 := hb0.c 1 rfl
 have b0 := hkx.c0
 have b1 := hkx.c1
 have hnow := hok.now
 have HD := hid h
 have HO := hid hok
 have HWd := hid (rWord_calls d.now.1 (by omega) d.now.2 (1) (.inr rfl) (W2.alloc (.cells #[.string (bs d.now.1), .int .i64 d.now.2] 28)))
 have H0x := hid h0x
 have HMx := hid hmx
 have HBx := hid hBx
 have HLx : Hid (w.heap.size + 2 ≤ (W2.alloc (.cells #[.string (bs d.now.1), .int .i64 d.now.2] 28)).heap.size) := hid (by simp; omega)
 clear hb0 hb1 hB2 hs2 h0x hmx hkx hBx h hok
 unfold dsV
 go_enter Tryz.func64, Tryz.ntmps64
 go_wp2_with fail
 refine HWd.out.mono ?_
 rintro e w3 ⟨kw, rfl, hkw, hb3⟩
 have H0c := hid (H0x.out.below hb3)
 have HMc := hid (HMx.out.below hb3)
 have HBc := hid (HBx.out.trans (hb3.mono HBx.out.size))
 have HLc : Hid (w.heap.size + 2 ≤ w3.heap.size) := hid (Nat.le_trans HLx.out hb3.size)
 clear hb3 H0x HMx HBx HLx HWd a0 a1 b0 b1
 have HCt := hid (dcut_calls w3 D r d B (HD.out.below HBc.out) HO.out d.now.2 (kw : Int))
 have h0c := H0c.out
 have c0 := h0c.c 0 rfl
 have c1 := h0c.c 1 rfl
 have c2 := h0c.c 2 rfl
 have c3 := h0c.c 3 rfl
 have c4 := h0c.c 4 rfl
 have c5 := h0c.c 5 rfl
 have c6 := h0c.c 6 rfl
 have c7 := h0c.c 7 rfl
 have c8 := h0c.c 8 rfl
 have c9 := h0c.c 9 rfl
 clear h0c
 unfold dsV at HCt
 go_wp2_with fail
 refine HCt.out.mono ?_
 rintro e w5 ⟨r1, d1, g, rfl, hg6, ht⟩
 obtain ⟨D1, a1, a2, a3, a4⟩ := ht
 have h05 := H0c.out.below a4
 have hm5 := HMc.out.below a4
 have hlc := HLc.out
 have k0 := h05.c 0 rfl
 have k1 := h05.c 1 rfl
 have k2 := h05.c 2 rfl
 have k3 := h05.c 3 rfl
 have k4 := h05.c 4 rfl
 have k5 := h05.c 5 rfl
 have k6 := h05.c 6 rfl
 have k7 := h05.c 7 rfl
 have k8 := h05.c 8 rfl
 have k9 := h05.c 9 rfl
 have u0 := h05.free 0
 have u1 := h05.free 1
 have u2 := h05.free 2
 have u3 := h05.free 3
 have u4 := h05.free 4
 have u5 := h05.free 5
 have u6 := h05.free 6
 have u7 := h05.free 7
 have u8 := h05.free 8
 have u9 := h05.free 9
 obtain ⟨W6, hW6⟩ : ∃ W6, (((((((((((w5.setCell ⟨w.heap.size, 0, none⟩ (.string (bs d1.now.1))).setCell ⟨w.heap.size, 1, none⟩ (.int .i64 d1.now.2)).setCell ⟨w.heap.size, 2, none⟩ (.slice r1.A1 d1.back.length r1.c1)).setCell ⟨w.heap.size, 3, none⟩ (.slice r1.A2 d1.forth.length r1.c2)).setCell ⟨w.heap.size, 4, none⟩ (.bool d1.opn)).setCell ⟨w.heap.size, 5, none⟩ (.slice r1.A3 d1.kills.length r1.c3)).setCell ⟨w.heap.size, 6, none⟩ (.int .i64 d1.top)).setCell ⟨w.heap.size, 7, none⟩ (.int .i64 d1.last)).setCell ⟨w.heap.size, 8, none⟩ (.int .i64 d1.fr)).setCell ⟨w.heap.size, 9, none⟩ (.int .i64 d1.to_)).setCell ⟨w.heap.size, 7, none⟩ (.int .i64 1)) = W6 := ⟨_, rfl⟩
 have ht6 := ten_boxD h05 r1 d1
 have ho6 := ten_onlyD w5 w.heap.size r1 d1
 have h06 : BxA W6 w.heap.size 32 [.string (bs d1.now.1), .int .i64 d1.now.2, .slice r1.A1 d1.back.length r1.c1, .slice r1.A2 d1.forth.length r1.c2, .bool d1.opn, .slice r1.A3 d1.kills.length r1.c3, .int .i64 d1.top, .int .i64 1, .int .i64 d1.fr, .int .i64 d1.to_] := by rw [← hW6]; exact ht6.set 7 _
 have ho7 : Only (fun i => i = w.heap.size) w5 W6 := by rw [← hW6]; exact ho6.set (p := ⟨w.heap.size, 7, none⟩) (.inl rfl) _
 have hm6 : BxA W6 (w.heap.size + 1) 32 dsZ := hm5.keep ho7 (fun e => by omega)
 have hB5 := HBc.out.trans (a4.mono HBc.out.size)
 have hB6 : Below w.heap.size w W6 := hB5.trans (ho7.below hB5.size (fun i (hi : i = _) => by omega))
 have hD6 := a1.keep ho7 (fun k hk (e : k = _) => (a3 k hk).elim (fun h1 => by have := HD.out.lt k h1; omega) (fun h1 => by omega))
 have hs6 : w3.heap.size ≤ W6.heap.size := Nat.le_trans a4.size ho7.size
 have HD6 := hid hD6
 have HO1 := hid a2
 have H3 := hid a3
 have HB6 := hid hB6
 have H06 := hid h06
 have HM6 := hid hm6
 have HS6 := hid hs6
 have Hg6 := hid hg6
 clear a1 a2 a3 a4 h05 hm5 ht6 ho6 ho7 hB5 hB6 hD6 hs6 hg6 h06 hm6 HCt hlc
 clear c0 c1 c2 c3 c4 c5 c6 c7 c8 c9
 rcases Classical.em (g = []) with hge | hge
 ·subst hge
  have HX := HM6
  have h06 := H06.out
  have hm6 := HM6.out
  have c0 := h06.c 0 rfl
  have c1 := h06.c 1 rfl
  have c2 := h06.c 2 rfl
  have c3 := h06.c 3 rfl
  have c4 := h06.c 4 rfl
  have c5 := h06.c 5 rfl
  have c6 := h06.c 6 rfl
  have c7 := h06.c 7 rfl
  have c8 := h06.c 8 rfl
  have c9 := h06.c 9 rfl
  have e0 := hm6.c 0 rfl
  have e1 := hm6.c 1 rfl
  have e2 := hm6.c 2 rfl
  have e3 := hm6.c 3 rfl
  have e4 := hm6.c 4 rfl
  have e5 := hm6.c 5 rfl
  have e6 := hm6.c 6 rfl
  have e7 := hm6.c 7 rfl
  have e8 := hm6.c 8 rfl
  have e9 := hm6.c 9 rfl
  have f0 := hm6.free 0
  have f1 := hm6.free 1
  have f2 := hm6.free 2
  have f3 := hm6.free 3
  have f4 := hm6.free 4
  have f5 := hm6.free 5
  have f6 := hm6.free 6
  have f7 := hm6.free 7
  have f8 := hm6.free 8
  have f9 := hm6.free 9
  clear h06 hm6
  (try unfold dsV)
  go_wp2_with fail
  refine bodyPost_ret (results_bx10 rfl _ _ ((w.heap.size + 1)) _ _ _ _ _ _ _ _ _ _ 32 rfl (ten_box HX.out _ _ _ _ _ _ _ _ _ _) Tryz.underlying32 (szS _)) rfl ?_
  exact ⟨r1, ⟨d1.now, d1.back, d1.forth, d1.opn, d1.kills, d1.top, 1, d1.fr, d1.to_⟩, rfl, dsin_fin2 (M := w.heap.size + 1) (d := ⟨d1.now, d1.back, d1.forth, d1.opn, d1.kills, d1.top, 1, d1.fr, d1.to_⟩) HD.out ⟨D1, HD6.out.same rfl rfl rfl, ⟨HO1.out.more.now, HO1.out.more.back, HO1.out.more.forth, HO1.out.more.len, HO1.out.more.kills, HO1.out.more.small, HO1.out.more.top⟩, H3.out⟩ HB6.out (by omega) (by have := HLc.out; omega) _ _ _ _ _ _ _ _ _ _ (by have := HLc.out; omega)⟩
 ·have hgi : g.isEmpty = false := by cases g with | nil => exact absurd rfl hge | cons => rfl
  clear hge
  have hk6 := HD6.out.kills
  obtain ⟨A1, q1, w7, hr1, hb7, hown1⟩ := kcopy W6 hk6 HO1.out.kills
  have h06 := H06.out
  have hm6 := HM6.out
  have h07 := h06.below hb7
  have hm7 := hm6.below hb7
  have HD7 := hid (HD6.out.below hb7)
  have HB7 := hid (HB6.out.trans (hb7.mono HB6.out.size))
  have H07 := hid h07
  have HM7 := hid hm7
  have Hown1 := hid hown1
  have Hr1 := hid hr1
  have HS7 : Hid (w3.heap.size ≤ w7.heap.size) := hid (Nat.le_trans HS6.out hb7.size)
  have HBw67 := hid hb7
  have c0 := h06.c 0 rfl
  have c1 := h06.c 1 rfl
  have c2 := h06.c 2 rfl
  have c3 := h06.c 3 rfl
  have c4 := h06.c 4 rfl
  have c5 := h06.c 5 rfl
  have c6 := h06.c 6 rfl
  have c7 := h06.c 7 rfl
  have c8 := h06.c 8 rfl
  have c9 := h06.c 9 rfl
  have hpk := h06.alloc (.cells #[] 9)
  have p5 := hpk.c 5 rfl
  clear hk6 h06 hm6 h07 hm7 hb7 hown1 hr1 hpk
  have hkl := HO1.out.kills
  rcases Classical.em (was = true ∧ d1.kills ≠ []) with hwk | hwk
  ·obtain ⟨hw_, hks⟩ := hwk
   subst hw_
   have hz0 : ((d1.kills.length : Int) == 0) = false := beq_eq_false_iff_ne.2 (by have := List.length_pos_iff.2 hks; omega)
   obtain ⟨x0, rest, hxr⟩ : ∃ x0 rest, d1.kills = x0 :: rest := List.exists_cons_of_ne_nil hks
   have hown1 := Hown1.out
   rw [hxr] at hown1
   obtain ⟨g1, hA1, hgb, hgl, hfz, hx0, hset⟩ := own_first7 hown1
   subst hA1
   have hx0s : x0.size ≤ B := HO1.out.small x0 (by rw [hxr]; simp)
   have hgs := Hg6.out
   have hgz := bs_size g
   have hcat : ¬ (9223372036854775807 < x0.size + g.length) := by omega
   obtain ⟨w8, hw8⟩ : ∃ w8, w7.setCell ⟨g1, 0, none⟩ (.string (x0 ++ bs g)) = w8 := ⟨_, rfl⟩
   have hrow8 := rowD_of_own (by simp) (hset (x0 ++ bs g))
   rw [hw8] at hrow8
   have ho8 : Only (fun i => i = g1) w7 w8 := by rw [← hw8]; exact only_set w7 ⟨g1, 0, none⟩ _
   have hS6 := HS6.out
   have hLc := HLc.out
   have hB78 : Below w.heap.size w w8 := HB7.out.trans (ho8.below HB7.out.size (fun i (hi : i = g1) => by omega))
   have h08 := H07.out.keep ho8 (fun (e : _ = g1) => by omega)
   have hm8 := HM7.out.keep ho8 (fun (e : _ = g1) => by omega)
   have hD8 := HD6.out.below HBw67.out |>.keep (R := fun i => W6.heap.size ≤ i) (ho8.mono (fun i (e : i = g1) => .inl (by omega))) (fun k hk h2 => by have := HD6.out.lt k hk; omega)
   have H08 := hid h08
   have HM8 := hid hm8
   have HD8 := hid hD8
   have HB8 := hid hB78
   have Hrow8 := hid hrow8
   have HS6' : Hid (w3.heap.size ≤ W6.heap.size) := HS6
   clear hown1 hgb hset hrow8 ho8 hS6 hLc hB78 h08 hm8 hD8
   obtain ⟨W9, hW9⟩ : ∃ W9, (w8.setCell ⟨w.heap.size, 5, none⟩ (.slice (some ⟨g1, 0, none⟩) d1.kills.length q1)).setCell ⟨w.heap.size, 6, none⟩ (.int .i64 0) = W9 := ⟨_, rfl⟩
   have h09 : BxA W9 w.heap.size 32 [.string (bs d1.now.1), .int .i64 d1.now.2, .slice r1.A1 d1.back.length r1.c1, .slice r1.A2 d1.forth.length r1.c2, .bool d1.opn, .slice (some ⟨g1, 0, none⟩) d1.kills.length q1, .int .i64 0, .int .i64 1, .int .i64 d1.fr, .int .i64 d1.to_] := by rw [← hW9]; exact (H08.out.set 5 _).set 6 _
   have hm9 : BxA W9 (w.heap.size + 1) 32 dsZ := by rw [← hW9]; exact (HM8.out.other (by omega) _).other (by omega) _
   have ho9 : Only (fun i => i = w.heap.size) w8 W9 := by rw [← hW9]; exact ((Only.refl (fun i => i = w.heap.size) w8).set (p := ⟨w.heap.size, 5, none⟩) (.inl rfl) _).set (p := ⟨w.heap.size, 6, none⟩) (.inl rfl) _
   have hB9 := (HB8.out).trans (ho9.below (HB8.out).size (fun i (hi : i = _) => by omega))
   have hat9 := (HD8.out).keep ho9 (fun k hk (e : k = _) => (H3.out k hk).elim (fun h1 => by have := HD.out.lt k h1; omega) (fun h1 => by have := HLc.out; omega))
   have hrow9 := (Hrow8.out).keep ho9 (fun k hk (e : k = _) => by have := HLc.out; have := HS6.out; omega)
   have hfin := kill_end HD.out hat9 HO1.out H3.out hB9 (hrow9.mono (D' := fun k => w3.heap.size ≤ k ∧ k < W9.heap.size) (fun k hk => ⟨by have := HS6.out; omega, Nat.lt_of_lt_of_le hk.2 ho9.size⟩)) (by have := hkl; rw [hxr] at this; simpa using this) (fun x hx => (List.mem_cons.1 hx).elim (fun h1 => by rw [h1, ByteArray.size_append]; omega) (fun h1 => Nat.le_trans (HO1.out.small x (by rw [hxr]; exact List.mem_cons_of_mem _ h1)) (by omega))) (by simp <;> omega) (by have := HLc.out; omega) (M := (w.heap.size + 1)) (by omega) (by have := HLc.out; omega) (.string (bs d1.now.1)) (.int .i64 d1.now.2) (.slice r1.A1 d1.back.length r1.c1) (.slice r1.A2 d1.forth.length r1.c2) (.bool d1.opn) (.slice (some ⟨g1, 0, none⟩) d1.kills.length q1) (.int .i64 0) (.int .i64 1) (.int .i64 d1.fr) (.int .i64 d1.to_)
   have HF := hid hfin
   have HX := hid hm9
   have h08x := H08.out
   have k5 := h08x.c 5 rfl
   have k6 := h08x.c 6 rfl
   have u5 := h08x.free 5
   have u6 := h08x.free 6
   have c0 := h09.c 0 rfl
   have c1 := h09.c 1 rfl
   have c2 := h09.c 2 rfl
   have c3 := h09.c 3 rfl
   have c4 := h09.c 4 rfl
   have c5 := h09.c 5 rfl
   have c6 := h09.c 6 rfl
   have c7 := h09.c 7 rfl
   have c8 := h09.c 8 rfl
   have c9 := h09.c 9 rfl
   have e0 := hm9.c 0 rfl
   have e1 := hm9.c 1 rfl
   have e2 := hm9.c 2 rfl
   have e3 := hm9.c 3 rfl
   have e4 := hm9.c 4 rfl
   have e5 := hm9.c 5 rfl
   have e6 := hm9.c 6 rfl
   have e7 := hm9.c 7 rfl
   have e8 := hm9.c 8 rfl
   have e9 := hm9.c 9 rfl
   have f0 := hm9.free 0
   have f1 := hm9.free 1
   have f2 := hm9.free 2
   have f3 := hm9.free 3
   have f4 := hm9.free 4
   have f5 := hm9.free 5
   have f6 := hm9.free 6
   have f7 := hm9.free 7
   have f8 := hm9.free 8
   have f9 := hm9.free 9
   clear h09 hm9 ho9 hB9 hat9 hrow9 hfin h08x
   have hlT : ((x0 ++ bs g) :: rest).length = d1.kills.length := by rw [hxr]; rfl
   have HLT := hid hlT
   have hi1 : 0 < d1.kills.length := by rw [hxr]; simp
   have hi2 : (0 : Int) < (d1.kills.length : Int) := by omega
   clear hlT hxr hgl
   (try unfold dsV)
   go_wp2_with (at_builtin; refine wpList_append_g (o := ⟨some 54, _, _, _, _, _⟩) (by kernel_rfl) (.tmp 51) (.tmp 53) 30 rfl _ _ rfl rfl Hr1.out ?_)
   refine bodyPost_ret (results_bx10 rfl _ _ ((w.heap.size + 1)) _ _ _ _ _ _ _ _ _ _ 32 rfl (ten_box HX.out _ _ _ _ _ _ _ _ _ _) Tryz.underlying32 (szS _)) rfl ?_
   refine ⟨_, _, ?_, HF.out⟩
   (try unfold dsV)
   simp only [HLT.out]
   (try rfl)
  ·cases was with
   | false =>
    have Hown1' := Hown1.out
    obtain ⟨A2, q2, w8, hr2, hb8, hown2⟩ := kcons w7 (bs g) Hown1' hkl
    have Hr2 := hid hr2
    have h08 := H07.out.below hb8
    have hm8 := HM7.out.below hb8
    have H08 := hid h08
    have HM8 := hid hm8
    have HD8 := hid (HD7.out.below hb8)
    have HB8 := hid (HB7.out.trans (hb8.mono HB7.out.size))
    have Hrow2 := hid (rowD_of_own (by simp; omega) hown2)
    obtain ⟨g2, hA2, _⟩ := own_first7 hown2
    subst hA2
    clear Hown1' hr2 hb8 hown2 h08 hm8
    by_cases hbig : 8 < 1 + d1.kills.length
    ·have hd1 : decide ((8 : Int) < ((1 + d1.kills.length : Nat) : Int)) = true := decide_eq_true (by omega)
     have hd2 : (8 : Int) < ((1 + d1.kills.length : Nat) : Int) := by omega
     have hd3 : (8 : Int) < 1 + (d1.kills.length : Int) := by omega
     have hq2 := Hrow2.out.le
     have hq3 : 8 ≤ q2 := by have := hq2; simp at this; omega
     have hq4 : (8 : Int) ≤ (q2 : Int) := by omega
     clear hq2
     obtain ⟨W9, hW9⟩ : ∃ W9, (w8.setCell ⟨w.heap.size, 5, none⟩ (.slice (some ⟨g2, 0, none⟩) 8 q2)).setCell ⟨w.heap.size, 6, none⟩ (.int .i64 0) = W9 := ⟨_, rfl⟩
     have h09 : BxA W9 w.heap.size 32 [.string (bs d1.now.1), .int .i64 d1.now.2, .slice r1.A1 d1.back.length r1.c1, .slice r1.A2 d1.forth.length r1.c2, .bool d1.opn, .slice (some ⟨g2, 0, none⟩) 8 q2, .int .i64 0, .int .i64 1, .int .i64 d1.fr, .int .i64 d1.to_] := by rw [← hW9]; exact (H08.out.set 5 _).set 6 _
     have hm9 : BxA W9 (w.heap.size + 1) 32 dsZ := by rw [← hW9]; exact (HM8.out.other (by omega) _).other (by omega) _
     have ho9 : Only (fun i => i = w.heap.size) w8 W9 := by rw [← hW9]; exact ((Only.refl (fun i => i = w.heap.size) w8).set (p := ⟨w.heap.size, 5, none⟩) (.inl rfl) _).set (p := ⟨w.heap.size, 6, none⟩) (.inl rfl) _
     have hB9 := (HB8.out).trans (ho9.below (HB8.out).size (fun i (hi : i = _) => by omega))
     have hat9 := (HD8.out).keep ho9 (fun k hk (e : k = _) => (H3.out k hk).elim (fun h1 => by have := HD.out.lt k h1; omega) (fun h1 => by have := HLc.out; omega))
     have hrow9 := ((⟨Hrow2.out.row.take strC_length 8, by simp; omega, Hrow2.out.max, Hrow2.out.nil⟩ : RowD strC w8 (fun k => w7.heap.size ≤ k ∧ k < w8.heap.size) (some ⟨g2, 0, none⟩) q2 ((bs g :: d1.kills).take 8))).keep ho9 (fun k hk (e : k = _) => by have := HLc.out; have := HS7.out; omega)
     have hfin := kill_end HD.out hat9 HO1.out H3.out hB9 (hrow9.mono (D' := fun k => w3.heap.size ≤ k ∧ k < W9.heap.size) (fun k hk => ⟨by have := HS7.out; omega, Nat.lt_of_lt_of_le hk.2 ho9.size⟩)) (by rw [List.length_take]; omega) (fun x hx => ksmallDocM Hg6.out HO1.out.small x (List.mem_of_mem_take hx)) (by simp <;> omega) (by have := HLc.out; omega) (M := (w.heap.size + 1)) (by omega) (by have := HLc.out; omega) (.string (bs d1.now.1)) (.int .i64 d1.now.2) (.slice r1.A1 d1.back.length r1.c1) (.slice r1.A2 d1.forth.length r1.c2) (.bool d1.opn) (.slice (some ⟨g2, 0, none⟩) 8 q2) (.int .i64 0) (.int .i64 1) (.int .i64 d1.fr) (.int .i64 d1.to_)
     have HF := hid hfin
     have HX := hid hm9
     have h08x := H08.out
     have k5 := h08x.c 5 rfl
     have k6 := h08x.c 6 rfl
     have u5 := h08x.free 5
     have u6 := h08x.free 6
     have c0 := h09.c 0 rfl
     have c1 := h09.c 1 rfl
     have c2 := h09.c 2 rfl
     have c3 := h09.c 3 rfl
     have c4 := h09.c 4 rfl
     have c5 := h09.c 5 rfl
     have c6 := h09.c 6 rfl
     have c7 := h09.c 7 rfl
     have c8 := h09.c 8 rfl
     have c9 := h09.c 9 rfl
     have e0 := hm9.c 0 rfl
     have e1 := hm9.c 1 rfl
     have e2 := hm9.c 2 rfl
     have e3 := hm9.c 3 rfl
     have e4 := hm9.c 4 rfl
     have e5 := hm9.c 5 rfl
     have e6 := hm9.c 6 rfl
     have e7 := hm9.c 7 rfl
     have e8 := hm9.c 8 rfl
     have e9 := hm9.c 9 rfl
     have f0 := hm9.free 0
     have f1 := hm9.free 1
     have f2 := hm9.free 2
     have f3 := hm9.free 3
     have f4 := hm9.free 4
     have f5 := hm9.free 5
     have f6 := hm9.free 6
     have f7 := hm9.free 7
     have f8 := hm9.free 8
     have f9 := hm9.free 9
     clear h09 hm9 ho9 hB9 hat9 hrow9 hfin h08x
     have hlT : ((bs g :: d1.kills).take 8).length = 8 := by simp; omega
     have HLT := hid hlT
     clear hlT
     (try unfold dsV)
     go_wp2_with (first | (at_builtin; refine wpList_append_g (o := ⟨some 54, _, _, _, _, _⟩) (by kernel_rfl) (.tmp 51) (.tmp 53) 30 rfl _ _ rfl rfl Hr1.out ?_) | (at_builtin; refine wpList_append_g (o := ⟨some 65, _, _, _, _, _⟩) (by kernel_rfl) (.tmp 63) (.tmp 64) 30 rfl _ _ rfl rfl Hr2.out ?_))
     refine bodyPost_ret (results_bx10 rfl _ _ ((w.heap.size + 1)) _ _ _ _ _ _ _ _ _ _ 32 rfl (ten_box HX.out _ _ _ _ _ _ _ _ _ _) Tryz.underlying32 (szS _)) rfl ?_
     refine ⟨_, _, ?_, HF.out⟩
     (try unfold dsV)
     simp only [HLT.out]
     (try rfl)
    ·have hd1 : decide ((8 : Int) < ((1 + d1.kills.length : Nat) : Int)) = false := decide_eq_false (by omega)
     have hd2 : ¬ (8 : Int) < ((1 + d1.kills.length : Nat) : Int) := by omega
     have hd3 : ¬ (8 : Int) < 1 + (d1.kills.length : Int) := by omega
     obtain ⟨W9, hW9⟩ : ∃ W9, (w8.setCell ⟨w.heap.size, 5, none⟩ (.slice (some ⟨g2, 0, none⟩) (1 + d1.kills.length) q2)).setCell ⟨w.heap.size, 6, none⟩ (.int .i64 0) = W9 := ⟨_, rfl⟩
     have h09 : BxA W9 w.heap.size 32 [.string (bs d1.now.1), .int .i64 d1.now.2, .slice r1.A1 d1.back.length r1.c1, .slice r1.A2 d1.forth.length r1.c2, .bool d1.opn, .slice (some ⟨g2, 0, none⟩) (1 + d1.kills.length) q2, .int .i64 0, .int .i64 1, .int .i64 d1.fr, .int .i64 d1.to_] := by rw [← hW9]; exact (H08.out.set 5 _).set 6 _
     have hm9 : BxA W9 (w.heap.size + 1) 32 dsZ := by rw [← hW9]; exact (HM8.out.other (by omega) _).other (by omega) _
     have ho9 : Only (fun i => i = w.heap.size) w8 W9 := by rw [← hW9]; exact ((Only.refl (fun i => i = w.heap.size) w8).set (p := ⟨w.heap.size, 5, none⟩) (.inl rfl) _).set (p := ⟨w.heap.size, 6, none⟩) (.inl rfl) _
     have hB9 := (HB8.out).trans (ho9.below (HB8.out).size (fun i (hi : i = _) => by omega))
     have hat9 := (HD8.out).keep ho9 (fun k hk (e : k = _) => (H3.out k hk).elim (fun h1 => by have := HD.out.lt k h1; omega) (fun h1 => by have := HLc.out; omega))
     have hrow9 := (Hrow2.out).keep ho9 (fun k hk (e : k = _) => by have := HLc.out; have := HS7.out; omega)
     have hfin := kill_end HD.out hat9 HO1.out H3.out hB9 (hrow9.mono (D' := fun k => w3.heap.size ≤ k ∧ k < W9.heap.size) (fun k hk => ⟨by have := HS7.out; omega, Nat.lt_of_lt_of_le hk.2 ho9.size⟩)) (by simp; omega) (fun x hx => ksmallDocM Hg6.out HO1.out.small x hx) (by simp <;> omega) (by have := HLc.out; omega) (M := (w.heap.size + 1)) (by omega) (by have := HLc.out; omega) (.string (bs d1.now.1)) (.int .i64 d1.now.2) (.slice r1.A1 d1.back.length r1.c1) (.slice r1.A2 d1.forth.length r1.c2) (.bool d1.opn) (.slice (some ⟨g2, 0, none⟩) (1 + d1.kills.length) q2) (.int .i64 0) (.int .i64 1) (.int .i64 d1.fr) (.int .i64 d1.to_)
     have HF := hid hfin
     have HX := hid hm9
     have h08x := H08.out
     have k5 := h08x.c 5 rfl
     have k6 := h08x.c 6 rfl
     have u5 := h08x.free 5
     have u6 := h08x.free 6
     have c0 := h09.c 0 rfl
     have c1 := h09.c 1 rfl
     have c2 := h09.c 2 rfl
     have c3 := h09.c 3 rfl
     have c4 := h09.c 4 rfl
     have c5 := h09.c 5 rfl
     have c6 := h09.c 6 rfl
     have c7 := h09.c 7 rfl
     have c8 := h09.c 8 rfl
     have c9 := h09.c 9 rfl
     have e0 := hm9.c 0 rfl
     have e1 := hm9.c 1 rfl
     have e2 := hm9.c 2 rfl
     have e3 := hm9.c 3 rfl
     have e4 := hm9.c 4 rfl
     have e5 := hm9.c 5 rfl
     have e6 := hm9.c 6 rfl
     have e7 := hm9.c 7 rfl
     have e8 := hm9.c 8 rfl
     have e9 := hm9.c 9 rfl
     have f0 := hm9.free 0
     have f1 := hm9.free 1
     have f2 := hm9.free 2
     have f3 := hm9.free 3
     have f4 := hm9.free 4
     have f5 := hm9.free 5
     have f6 := hm9.free 6
     have f7 := hm9.free 7
     have f8 := hm9.free 8
     have f9 := hm9.free 9
     clear h09 hm9 ho9 hB9 hat9 hrow9 hfin h08x
     have hlT : (bs g :: d1.kills).length = 1 + d1.kills.length := by simp; omega
     have HLT := hid hlT
     clear hlT
     (try unfold dsV)
     go_wp2_with (first | (at_builtin; refine wpList_append_g (o := ⟨some 54, _, _, _, _, _⟩) (by kernel_rfl) (.tmp 51) (.tmp 53) 30 rfl _ _ rfl rfl Hr1.out ?_) | (at_builtin; refine wpList_append_g (o := ⟨some 65, _, _, _, _, _⟩) (by kernel_rfl) (.tmp 63) (.tmp 64) 30 rfl _ _ rfl rfl Hr2.out ?_))
     refine bodyPost_ret (results_bx10 rfl _ _ ((w.heap.size + 1)) _ _ _ _ _ _ _ _ _ _ 32 rfl (ten_box HX.out _ _ _ _ _ _ _ _ _ _) Tryz.underlying32 (szS _)) rfl ?_
     refine ⟨_, _, ?_, HF.out⟩
     (try unfold dsV)
     simp only [HLT.out]
     (try rfl)
   | true =>
    have hks : d1.kills = [] := Classical.byContradiction fun hc => hwk ⟨rfl, hc⟩
    have hz0 : ((d1.kills.length : Int) == 0) = true := by rw [hks]; rfl
    clear hks
    have Hown1' := Hown1.out
    obtain ⟨A2, q2, w8, hr2, hb8, hown2⟩ := kcons w7 (bs g) Hown1' hkl
    have Hr2 := hid hr2
    have h08 := H07.out.below hb8
    have hm8 := HM7.out.below hb8
    have H08 := hid h08
    have HM8 := hid hm8
    have HD8 := hid (HD7.out.below hb8)
    have HB8 := hid (HB7.out.trans (hb8.mono HB7.out.size))
    have Hrow2 := hid (rowD_of_own (by simp; omega) hown2)
    obtain ⟨g2, hA2, _⟩ := own_first7 hown2
    subst hA2
    clear Hown1' hr2 hb8 hown2 h08 hm8
    by_cases hbig : 8 < 1 + d1.kills.length
    ·have hd1 : decide ((8 : Int) < ((1 + d1.kills.length : Nat) : Int)) = true := decide_eq_true (by omega)
     have hd2 : (8 : Int) < ((1 + d1.kills.length : Nat) : Int) := by omega
     have hd3 : (8 : Int) < 1 + (d1.kills.length : Int) := by omega
     have hq2 := Hrow2.out.le
     have hq3 : 8 ≤ q2 := by have := hq2; simp at this; omega
     have hq4 : (8 : Int) ≤ (q2 : Int) := by omega
     clear hq2
     obtain ⟨W9, hW9⟩ : ∃ W9, (w8.setCell ⟨w.heap.size, 5, none⟩ (.slice (some ⟨g2, 0, none⟩) 8 q2)).setCell ⟨w.heap.size, 6, none⟩ (.int .i64 0) = W9 := ⟨_, rfl⟩
     have h09 : BxA W9 w.heap.size 32 [.string (bs d1.now.1), .int .i64 d1.now.2, .slice r1.A1 d1.back.length r1.c1, .slice r1.A2 d1.forth.length r1.c2, .bool d1.opn, .slice (some ⟨g2, 0, none⟩) 8 q2, .int .i64 0, .int .i64 1, .int .i64 d1.fr, .int .i64 d1.to_] := by rw [← hW9]; exact (H08.out.set 5 _).set 6 _
     have hm9 : BxA W9 (w.heap.size + 1) 32 dsZ := by rw [← hW9]; exact (HM8.out.other (by omega) _).other (by omega) _
     have ho9 : Only (fun i => i = w.heap.size) w8 W9 := by rw [← hW9]; exact ((Only.refl (fun i => i = w.heap.size) w8).set (p := ⟨w.heap.size, 5, none⟩) (.inl rfl) _).set (p := ⟨w.heap.size, 6, none⟩) (.inl rfl) _
     have hB9 := (HB8.out).trans (ho9.below (HB8.out).size (fun i (hi : i = _) => by omega))
     have hat9 := (HD8.out).keep ho9 (fun k hk (e : k = _) => (H3.out k hk).elim (fun h1 => by have := HD.out.lt k h1; omega) (fun h1 => by have := HLc.out; omega))
     have hrow9 := ((⟨Hrow2.out.row.take strC_length 8, by simp; omega, Hrow2.out.max, Hrow2.out.nil⟩ : RowD strC w8 (fun k => w7.heap.size ≤ k ∧ k < w8.heap.size) (some ⟨g2, 0, none⟩) q2 ((bs g :: d1.kills).take 8))).keep ho9 (fun k hk (e : k = _) => by have := HLc.out; have := HS7.out; omega)
     have hfin := kill_end HD.out hat9 HO1.out H3.out hB9 (hrow9.mono (D' := fun k => w3.heap.size ≤ k ∧ k < W9.heap.size) (fun k hk => ⟨by have := HS7.out; omega, Nat.lt_of_lt_of_le hk.2 ho9.size⟩)) (by rw [List.length_take]; omega) (fun x hx => ksmallDocM Hg6.out HO1.out.small x (List.mem_of_mem_take hx)) (by simp <;> omega) (by have := HLc.out; omega) (M := (w.heap.size + 1)) (by omega) (by have := HLc.out; omega) (.string (bs d1.now.1)) (.int .i64 d1.now.2) (.slice r1.A1 d1.back.length r1.c1) (.slice r1.A2 d1.forth.length r1.c2) (.bool d1.opn) (.slice (some ⟨g2, 0, none⟩) 8 q2) (.int .i64 0) (.int .i64 1) (.int .i64 d1.fr) (.int .i64 d1.to_)
     have HF := hid hfin
     have HX := hid hm9
     have h08x := H08.out
     have k5 := h08x.c 5 rfl
     have k6 := h08x.c 6 rfl
     have u5 := h08x.free 5
     have u6 := h08x.free 6
     have c0 := h09.c 0 rfl
     have c1 := h09.c 1 rfl
     have c2 := h09.c 2 rfl
     have c3 := h09.c 3 rfl
     have c4 := h09.c 4 rfl
     have c5 := h09.c 5 rfl
     have c6 := h09.c 6 rfl
     have c7 := h09.c 7 rfl
     have c8 := h09.c 8 rfl
     have c9 := h09.c 9 rfl
     have e0 := hm9.c 0 rfl
     have e1 := hm9.c 1 rfl
     have e2 := hm9.c 2 rfl
     have e3 := hm9.c 3 rfl
     have e4 := hm9.c 4 rfl
     have e5 := hm9.c 5 rfl
     have e6 := hm9.c 6 rfl
     have e7 := hm9.c 7 rfl
     have e8 := hm9.c 8 rfl
     have e9 := hm9.c 9 rfl
     have f0 := hm9.free 0
     have f1 := hm9.free 1
     have f2 := hm9.free 2
     have f3 := hm9.free 3
     have f4 := hm9.free 4
     have f5 := hm9.free 5
     have f6 := hm9.free 6
     have f7 := hm9.free 7
     have f8 := hm9.free 8
     have f9 := hm9.free 9
     clear h09 hm9 ho9 hB9 hat9 hrow9 hfin h08x
     have hlT : ((bs g :: d1.kills).take 8).length = 8 := by simp; omega
     have HLT := hid hlT
     clear hlT
     (try unfold dsV)
     go_wp2_with (first | (at_builtin; refine wpList_append_g (o := ⟨some 54, _, _, _, _, _⟩) (by kernel_rfl) (.tmp 51) (.tmp 53) 30 rfl _ _ rfl rfl Hr1.out ?_) | (at_builtin; refine wpList_append_g (o := ⟨some 65, _, _, _, _, _⟩) (by kernel_rfl) (.tmp 63) (.tmp 64) 30 rfl _ _ rfl rfl Hr2.out ?_))
     refine bodyPost_ret (results_bx10 rfl _ _ ((w.heap.size + 1)) _ _ _ _ _ _ _ _ _ _ 32 rfl (ten_box HX.out _ _ _ _ _ _ _ _ _ _) Tryz.underlying32 (szS _)) rfl ?_
     refine ⟨_, _, ?_, HF.out⟩
     (try unfold dsV)
     simp only [HLT.out]
     (try rfl)
    ·have hd1 : decide ((8 : Int) < ((1 + d1.kills.length : Nat) : Int)) = false := decide_eq_false (by omega)
     have hd2 : ¬ (8 : Int) < ((1 + d1.kills.length : Nat) : Int) := by omega
     have hd3 : ¬ (8 : Int) < 1 + (d1.kills.length : Int) := by omega
     obtain ⟨W9, hW9⟩ : ∃ W9, (w8.setCell ⟨w.heap.size, 5, none⟩ (.slice (some ⟨g2, 0, none⟩) (1 + d1.kills.length) q2)).setCell ⟨w.heap.size, 6, none⟩ (.int .i64 0) = W9 := ⟨_, rfl⟩
     have h09 : BxA W9 w.heap.size 32 [.string (bs d1.now.1), .int .i64 d1.now.2, .slice r1.A1 d1.back.length r1.c1, .slice r1.A2 d1.forth.length r1.c2, .bool d1.opn, .slice (some ⟨g2, 0, none⟩) (1 + d1.kills.length) q2, .int .i64 0, .int .i64 1, .int .i64 d1.fr, .int .i64 d1.to_] := by rw [← hW9]; exact (H08.out.set 5 _).set 6 _
     have hm9 : BxA W9 (w.heap.size + 1) 32 dsZ := by rw [← hW9]; exact (HM8.out.other (by omega) _).other (by omega) _
     have ho9 : Only (fun i => i = w.heap.size) w8 W9 := by rw [← hW9]; exact ((Only.refl (fun i => i = w.heap.size) w8).set (p := ⟨w.heap.size, 5, none⟩) (.inl rfl) _).set (p := ⟨w.heap.size, 6, none⟩) (.inl rfl) _
     have hB9 := (HB8.out).trans (ho9.below (HB8.out).size (fun i (hi : i = _) => by omega))
     have hat9 := (HD8.out).keep ho9 (fun k hk (e : k = _) => (H3.out k hk).elim (fun h1 => by have := HD.out.lt k h1; omega) (fun h1 => by have := HLc.out; omega))
     have hrow9 := (Hrow2.out).keep ho9 (fun k hk (e : k = _) => by have := HLc.out; have := HS7.out; omega)
     have hfin := kill_end HD.out hat9 HO1.out H3.out hB9 (hrow9.mono (D' := fun k => w3.heap.size ≤ k ∧ k < W9.heap.size) (fun k hk => ⟨by have := HS7.out; omega, Nat.lt_of_lt_of_le hk.2 ho9.size⟩)) (by simp; omega) (fun x hx => ksmallDocM Hg6.out HO1.out.small x hx) (by simp <;> omega) (by have := HLc.out; omega) (M := (w.heap.size + 1)) (by omega) (by have := HLc.out; omega) (.string (bs d1.now.1)) (.int .i64 d1.now.2) (.slice r1.A1 d1.back.length r1.c1) (.slice r1.A2 d1.forth.length r1.c2) (.bool d1.opn) (.slice (some ⟨g2, 0, none⟩) (1 + d1.kills.length) q2) (.int .i64 0) (.int .i64 1) (.int .i64 d1.fr) (.int .i64 d1.to_)
     have HF := hid hfin
     have HX := hid hm9
     have h08x := H08.out
     have k5 := h08x.c 5 rfl
     have k6 := h08x.c 6 rfl
     have u5 := h08x.free 5
     have u6 := h08x.free 6
     have c0 := h09.c 0 rfl
     have c1 := h09.c 1 rfl
     have c2 := h09.c 2 rfl
     have c3 := h09.c 3 rfl
     have c4 := h09.c 4 rfl
     have c5 := h09.c 5 rfl
     have c6 := h09.c 6 rfl
     have c7 := h09.c 7 rfl
     have c8 := h09.c 8 rfl
     have c9 := h09.c 9 rfl
     have e0 := hm9.c 0 rfl
     have e1 := hm9.c 1 rfl
     have e2 := hm9.c 2 rfl
     have e3 := hm9.c 3 rfl
     have e4 := hm9.c 4 rfl
     have e5 := hm9.c 5 rfl
     have e6 := hm9.c 6 rfl
     have e7 := hm9.c 7 rfl
     have e8 := hm9.c 8 rfl
     have e9 := hm9.c 9 rfl
     have f0 := hm9.free 0
     have f1 := hm9.free 1
     have f2 := hm9.free 2
     have f3 := hm9.free 3
     have f4 := hm9.free 4
     have f5 := hm9.free 5
     have f6 := hm9.free 6
     have f7 := hm9.free 7
     have f8 := hm9.free 8
     have f9 := hm9.free 9
     clear h09 hm9 ho9 hB9 hat9 hrow9 hfin h08x
     have hlT : (bs g :: d1.kills).length = 1 + d1.kills.length := by simp; omega
     have HLT := hid hlT
     clear hlT
     (try unfold dsV)
     go_wp2_with (first | (at_builtin; refine wpList_append_g (o := ⟨some 54, _, _, _, _, _⟩) (by kernel_rfl) (.tmp 51) (.tmp 53) 30 rfl _ _ rfl rfl Hr1.out ?_) | (at_builtin; refine wpList_append_g (o := ⟨some 65, _, _, _, _, _⟩) (by kernel_rfl) (.tmp 63) (.tmp 64) 30 rfl _ _ rfl rfl Hr2.out ?_))
     refine bodyPost_ret (results_bx10 rfl _ _ ((w.heap.size + 1)) _ _ _ _ _ _ _ _ _ _ 32 rfl (ten_box HX.out _ _ _ _ _ _ _ _ _ _) Tryz.underlying32 (szS _)) rfl ?_
     refine ⟨_, _, ?_, HF.out⟩
     (try unfold dsV)
     simp only [HLT.out]
     (try rfl)
end
section
open Go Go.RowKit
open Go.Lib (hid)
set_option maxRecDepth 100000
set_option maxHeartbeats 8000000 in
theorem dpress_k11 (w : World) (D : Nat → Prop) (r : DR) (d : DS) (B : Nat) (h : DsAt w D r d) (hok : d.Ok B) (hB8 : B ≤ 1000000) (t : List UInt8) (ht0 : t.length ≤ 100000) :
  Calls Tryz.prog 26 #[dsV r d, .agg #[.int .i64 11, .string (bs t)]] w fun e w' => ∃ r' d' q, e = .returned (.tuple #[dsV r' d', .bool q]) ∧ DsTo w D (B + 600) w' r' d' := by
 obtain ⟨W2, hW2, hB2, hs2, hb0, hb1, hb2⟩ := boxes7k w r d 11 (bs t)
 have h0x := hb0.alloc (.cells #[.string (bs d.now.1), .int .i64 d.now.2] 28)
 have hyx := hb1.alloc (.cells #[.string (bs d.now.1), .int .i64 d.now.2] 28)
 obtain ⟨W4, hW4⟩ : ∃ W4, (W2.alloc (.cells #[.string (bs d.now.1), .int .i64 d.now.2] 28)).setCell ⟨w.heap.size, 7, none⟩ (.int .i64 0) = W4 := ⟨_, rfl⟩
 have h04 : BxA W4 w.heap.size 32 [.string (bs d.now.1), .int .i64 d.now.2, .slice r.A1 d.back.length r.c1, .slice r.A2 d.forth.length r.c2, .bool d.opn, .slice r.A3 d.kills.length r.c3, .int .i64 d.top, .int .i64 0, .int .i64 d.fr, .int .i64 d.to_] := by rw [← hW4]; exact h0x.set 7 _
 have hy4 : Bx W4 (w.heap.size + 1) 34 (.int .i64 11) (.string (bs t)) := by rw [← hW4]; exact hyx.other (by omega) _
 have hm4 : BxA W4 (w.heap.size + 1 + 1) 32 dsZ := by rw [← hW4]; exact (hb2.alloc _).other (by omega) _
 have hk4 : Bx W4 W2.heap.size 28 (.string (bs d.now.1)) (.int .i64 d.now.2) := by rw [← hW4]; exact (Bx.new W2 _ _ _).other (by omega) _
 have hB4 : Below w.heap.size w W4 := by rw [← hW4]; exact (hB2.alloc hB2.size _).setCell (p := ⟨w.heap.size, 7, none⟩) (Nat.le_refl _) _
 have hs4 : w.heap.size + 3 ≤ W4.heap.size := by rw [← hW4]; simp [World.setCell]; omega
 have hszn := bs_size d.now.1
 have hnow := hok.now
 have _ := hB8
 have _ := ht0
 have k0 := hb0.c 0 rfl
 have k1 := hb0.c 1 rfl
 have k7 := hb0.c 7 rfl
 have x7 := h0x.c 7 rfl
 have u7 := h0x.free 7
 have y0 := hyx.c0
 have z0 := hy4.c0
 have z1 := hy4.c1
 have b0 := hk4.c0
 have b1 := hk4.c1
 have c0 := h04.c 0 rfl
 have c1 := h04.c 1 rfl
 have c2 := h04.c 2 rfl
 have c3 := h04.c 3 rfl
 have c4 := h04.c 4 rfl
 have c5 := h04.c 5 rfl
 have c6 := h04.c 6 rfl
 have c7 := h04.c 7 rfl
 have c8 := h04.c 8 rfl
 have c9 := h04.c 9 rfl
 have H04 := hid h04
 have HM4 := hid hm4
 have HK4 := hid hk4
 have HY4 := hid hy4
 have HB4 := hid hB4
 have HL4 := hid hs4
 have HD := hid h
 have HO := hid hok
 have HD4 := hid ((h.below hB4).same (d' := (⟨d.now, d.back, d.forth, d.opn, d.kills, d.top, 0, d.fr, d.to_⟩ : DS)) rfl rfl rfl)
 clear hb0 hb1 hb2 hB2 h0x hyx h04 hm4 hk4 hy4 hB4 hs2 hs4 h hok
 unfold dsV
 go_enter Tryz.func26, Tryz.ntmps26
 have HC := hid (dkill_w11 W4 D r (⟨d.now, d.back, d.forth, d.opn, d.kills, d.top, 0, d.fr, d.to_⟩ : DS) B HD4.out ⟨HO.out.now, HO.out.back, HO.out.forth, HO.out.len, HO.out.kills, HO.out.small, HO.out.top⟩ hB8 (d.last == 1))
 (try unfold dsV at HC)
 go_wp2_with fail
 refine HC.out.mono ?_
 rintro e w5 ⟨r1, d1, rfl, ht⟩
 clear c0 c1 c2 c3 c4 c5 c6 c7 c8 c9
 obtain ⟨D1, a1, a2, a3, a4⟩ := ht
 have h05 := H04.out.below a4
 have hm5 := HM4.out.below a4
 have hlc := HL4.out
 have k0 := h05.c 0 rfl
 have k1 := h05.c 1 rfl
 have k2 := h05.c 2 rfl
 have k3 := h05.c 3 rfl
 have k4 := h05.c 4 rfl
 have k5 := h05.c 5 rfl
 have k6 := h05.c 6 rfl
 have k7 := h05.c 7 rfl
 have k8 := h05.c 8 rfl
 have k9 := h05.c 9 rfl
 have u0 := h05.free 0
 have u1 := h05.free 1
 have u2 := h05.free 2
 have u3 := h05.free 3
 have u4 := h05.free 4
 have u5 := h05.free 5
 have u6 := h05.free 6
 have u7 := h05.free 7
 have u8 := h05.free 8
 have u9 := h05.free 9
 obtain ⟨W6, hW6⟩ : ∃ W6, ((((((((((w5.setCell ⟨w.heap.size, 0, none⟩ (.string (bs d1.now.1))).setCell ⟨w.heap.size, 1, none⟩ (.int .i64 d1.now.2)).setCell ⟨w.heap.size, 2, none⟩ (.slice r1.A1 d1.back.length r1.c1)).setCell ⟨w.heap.size, 3, none⟩ (.slice r1.A2 d1.forth.length r1.c2)).setCell ⟨w.heap.size, 4, none⟩ (.bool d1.opn)).setCell ⟨w.heap.size, 5, none⟩ (.slice r1.A3 d1.kills.length r1.c3)).setCell ⟨w.heap.size, 6, none⟩ (.int .i64 d1.top)).setCell ⟨w.heap.size, 7, none⟩ (.int .i64 d1.last)).setCell ⟨w.heap.size, 8, none⟩ (.int .i64 d1.fr)).setCell ⟨w.heap.size, 9, none⟩ (.int .i64 d1.to_)) = W6 := ⟨_, rfl⟩
 have ht6 := ten_boxD h05 r1 d1
 have ho6 := ten_onlyD w5 w.heap.size r1 d1
 have h06 : BxA W6 w.heap.size 32 (dsK r1 d1) := by rw [← hW6]; exact ht6
 have ho7 : Only (fun i => i = w.heap.size) w5 W6 := by rw [← hW6]; exact ho6
 have hm6 : BxA W6 (w.heap.size + 1 + 1) 32 dsZ := hm5.keep ho7 (fun e => by omega)
 have hB5 := HB4.out.trans (a4.mono HB4.out.size)
 have hB6 : Below w.heap.size w W6 := hB5.trans (ho7.below hB5.size (fun i (hi : i = _) => by omega))
 have hin : DsIn D (B + 600) W6 (w.heap.size + 3) r1 d1 := ⟨D1, a1.keep ho7 (fun k hk (e : k = _) => (a3 k hk).elim (fun h1 => by have := HD.out.lt k h1; omega) (fun h1 => by omega)), a2, fun k hk => (a3 k hk).imp id (fun h => by omega)⟩
 have HX := hid hm6
 have HF : Hid (DsTo w D (B + 600) (tenD W6 (w.heap.size + 1 + 1) r1 d1) r1 d1) := hid (dsin_fin2 HD.out hin hB6 (by omega) (by omega) (.string (bs d1.now.1)) (.int .i64 d1.now.2) (.slice r1.A1 d1.back.length r1.c1) (.slice r1.A2 d1.forth.length r1.c2) (.bool d1.opn) (.slice r1.A3 d1.kills.length r1.c3) (.int .i64 d1.top) (.int .i64 d1.last) (.int .i64 d1.fr) (.int .i64 d1.to_))
 have H06 := hid h06
 have c0 := h06.c 0 rfl
 have c1 := h06.c 1 rfl
 have c2 := h06.c 2 rfl
 have c3 := h06.c 3 rfl
 have c4 := h06.c 4 rfl
 have c5 := h06.c 5 rfl
 have c6 := h06.c 6 rfl
 have c7 := h06.c 7 rfl
 have c8 := h06.c 8 rfl
 have c9 := h06.c 9 rfl
 have e0 := hm6.c 0 rfl
 have e1 := hm6.c 1 rfl
 have e2 := hm6.c 2 rfl
 have e3 := hm6.c 3 rfl
 have e4 := hm6.c 4 rfl
 have e5 := hm6.c 5 rfl
 have e6 := hm6.c 6 rfl
 have e7 := hm6.c 7 rfl
 have e8 := hm6.c 8 rfl
 have e9 := hm6.c 9 rfl
 have f0 := hm6.free 0
 have f1 := hm6.free 1
 have f2 := hm6.free 2
 have f3 := hm6.free 3
 have f4 := hm6.free 4
 have f5 := hm6.free 5
 have f6 := hm6.free 6
 have f7 := hm6.free 7
 have f8 := hm6.free 8
 have f9 := hm6.free 9
 clear a1 a2 a3 a4 h05 hm5 ht6 ho6 ho7 hB5 hB6 hin h06 hm6 hlc
 (try unfold dsV)
 clear HC
 go_wp2_with fail
 refine bodyPost_ret (results_bx10' rfl _ _ ((w.heap.size + 1 + 1)) _ _ _ _ _ _ _ _ _ _ _ 32 rfl rfl (ten_box HX.out _ _ _ _ _ _ _ _ _ _) Tryz.underlying32 (szS _)) rfl ?_
 exact ⟨r1, d1, true, rfl, HF.out⟩
set_option maxHeartbeats 8000000 in
theorem dpress_k12 (w : World) (D : Nat → Prop) (r : DR) (d : DS) (B : Nat) (h : DsAt w D r d) (hok : d.Ok B) (hB8 : B ≤ 1000000) (t : List UInt8) (ht0 : t.length ≤ 100000) :
  Calls Tryz.prog 26 #[dsV r d, .agg #[.int .i64 12, .string (bs t)]] w fun e w' => ∃ r' d' q, e = .returned (.tuple #[dsV r' d', .bool q]) ∧ DsTo w D (B + 600) w' r' d' := by
 obtain ⟨W2, hW2, hB2, hs2, hb0, hb1, hb2⟩ := boxes7k w r d 12 (bs t)
 have h0x := hb0.alloc (.cells #[.string (bs d.now.1), .int .i64 d.now.2] 28)
 have hyx := hb1.alloc (.cells #[.string (bs d.now.1), .int .i64 d.now.2] 28)
 obtain ⟨W4, hW4⟩ : ∃ W4, (W2.alloc (.cells #[.string (bs d.now.1), .int .i64 d.now.2] 28)).setCell ⟨w.heap.size, 7, none⟩ (.int .i64 0) = W4 := ⟨_, rfl⟩
 have h04 : BxA W4 w.heap.size 32 [.string (bs d.now.1), .int .i64 d.now.2, .slice r.A1 d.back.length r.c1, .slice r.A2 d.forth.length r.c2, .bool d.opn, .slice r.A3 d.kills.length r.c3, .int .i64 d.top, .int .i64 0, .int .i64 d.fr, .int .i64 d.to_] := by rw [← hW4]; exact h0x.set 7 _
 have hy4 : Bx W4 (w.heap.size + 1) 34 (.int .i64 12) (.string (bs t)) := by rw [← hW4]; exact hyx.other (by omega) _
 have hm4 : BxA W4 (w.heap.size + 1 + 1) 32 dsZ := by rw [← hW4]; exact (hb2.alloc _).other (by omega) _
 have hk4 : Bx W4 W2.heap.size 28 (.string (bs d.now.1)) (.int .i64 d.now.2) := by rw [← hW4]; exact (Bx.new W2 _ _ _).other (by omega) _
 have hB4 : Below w.heap.size w W4 := by rw [← hW4]; exact (hB2.alloc hB2.size _).setCell (p := ⟨w.heap.size, 7, none⟩) (Nat.le_refl _) _
 have hs4 : w.heap.size + 3 ≤ W4.heap.size := by rw [← hW4]; simp [World.setCell]; omega
 have hszn := bs_size d.now.1
 have hnow := hok.now
 have _ := hB8
 have _ := ht0
 have k0 := hb0.c 0 rfl
 have k1 := hb0.c 1 rfl
 have k7 := hb0.c 7 rfl
 have x7 := h0x.c 7 rfl
 have u7 := h0x.free 7
 have y0 := hyx.c0
 have z0 := hy4.c0
 have z1 := hy4.c1
 have b0 := hk4.c0
 have b1 := hk4.c1
 have c0 := h04.c 0 rfl
 have c1 := h04.c 1 rfl
 have c2 := h04.c 2 rfl
 have c3 := h04.c 3 rfl
 have c4 := h04.c 4 rfl
 have c5 := h04.c 5 rfl
 have c6 := h04.c 6 rfl
 have c7 := h04.c 7 rfl
 have c8 := h04.c 8 rfl
 have c9 := h04.c 9 rfl
 have H04 := hid h04
 have HM4 := hid hm4
 have HK4 := hid hk4
 have HY4 := hid hy4
 have HB4 := hid hB4
 have HL4 := hid hs4
 have HD := hid h
 have HO := hid hok
 have HD4 := hid ((h.below hB4).same (d' := (⟨d.now, d.back, d.forth, d.opn, d.kills, d.top, 0, d.fr, d.to_⟩ : DS)) rfl rfl rfl)
 clear hb0 hb1 hb2 hB2 h0x hyx h04 hm4 hk4 hy4 hB4 hs2 hs4 h hok
 unfold dsV
 go_enter Tryz.func26, Tryz.ntmps26
 have HC := hid (dkill_w12 W4 D r (⟨d.now, d.back, d.forth, d.opn, d.kills, d.top, 0, d.fr, d.to_⟩ : DS) B HD4.out ⟨HO.out.now, HO.out.back, HO.out.forth, HO.out.len, HO.out.kills, HO.out.small, HO.out.top⟩ hB8 (d.last == 1))
 (try unfold dsV at HC)
 go_wp2_with fail
 refine HC.out.mono ?_
 rintro e w5 ⟨r1, d1, rfl, ht⟩
 clear c0 c1 c2 c3 c4 c5 c6 c7 c8 c9
 obtain ⟨D1, a1, a2, a3, a4⟩ := ht
 have h05 := H04.out.below a4
 have hm5 := HM4.out.below a4
 have hlc := HL4.out
 have k0 := h05.c 0 rfl
 have k1 := h05.c 1 rfl
 have k2 := h05.c 2 rfl
 have k3 := h05.c 3 rfl
 have k4 := h05.c 4 rfl
 have k5 := h05.c 5 rfl
 have k6 := h05.c 6 rfl
 have k7 := h05.c 7 rfl
 have k8 := h05.c 8 rfl
 have k9 := h05.c 9 rfl
 have u0 := h05.free 0
 have u1 := h05.free 1
 have u2 := h05.free 2
 have u3 := h05.free 3
 have u4 := h05.free 4
 have u5 := h05.free 5
 have u6 := h05.free 6
 have u7 := h05.free 7
 have u8 := h05.free 8
 have u9 := h05.free 9
 obtain ⟨W6, hW6⟩ : ∃ W6, ((((((((((w5.setCell ⟨w.heap.size, 0, none⟩ (.string (bs d1.now.1))).setCell ⟨w.heap.size, 1, none⟩ (.int .i64 d1.now.2)).setCell ⟨w.heap.size, 2, none⟩ (.slice r1.A1 d1.back.length r1.c1)).setCell ⟨w.heap.size, 3, none⟩ (.slice r1.A2 d1.forth.length r1.c2)).setCell ⟨w.heap.size, 4, none⟩ (.bool d1.opn)).setCell ⟨w.heap.size, 5, none⟩ (.slice r1.A3 d1.kills.length r1.c3)).setCell ⟨w.heap.size, 6, none⟩ (.int .i64 d1.top)).setCell ⟨w.heap.size, 7, none⟩ (.int .i64 d1.last)).setCell ⟨w.heap.size, 8, none⟩ (.int .i64 d1.fr)).setCell ⟨w.heap.size, 9, none⟩ (.int .i64 d1.to_)) = W6 := ⟨_, rfl⟩
 have ht6 := ten_boxD h05 r1 d1
 have ho6 := ten_onlyD w5 w.heap.size r1 d1
 have h06 : BxA W6 w.heap.size 32 (dsK r1 d1) := by rw [← hW6]; exact ht6
 have ho7 : Only (fun i => i = w.heap.size) w5 W6 := by rw [← hW6]; exact ho6
 have hm6 : BxA W6 (w.heap.size + 1 + 1) 32 dsZ := hm5.keep ho7 (fun e => by omega)
 have hB5 := HB4.out.trans (a4.mono HB4.out.size)
 have hB6 : Below w.heap.size w W6 := hB5.trans (ho7.below hB5.size (fun i (hi : i = _) => by omega))
 have hin : DsIn D (B + 600) W6 (w.heap.size + 3) r1 d1 := ⟨D1, a1.keep ho7 (fun k hk (e : k = _) => (a3 k hk).elim (fun h1 => by have := HD.out.lt k h1; omega) (fun h1 => by omega)), a2, fun k hk => (a3 k hk).imp id (fun h => by omega)⟩
 have HX := hid hm6
 have HF : Hid (DsTo w D (B + 600) (tenD W6 (w.heap.size + 1 + 1) r1 d1) r1 d1) := hid (dsin_fin2 HD.out hin hB6 (by omega) (by omega) (.string (bs d1.now.1)) (.int .i64 d1.now.2) (.slice r1.A1 d1.back.length r1.c1) (.slice r1.A2 d1.forth.length r1.c2) (.bool d1.opn) (.slice r1.A3 d1.kills.length r1.c3) (.int .i64 d1.top) (.int .i64 d1.last) (.int .i64 d1.fr) (.int .i64 d1.to_))
 have H06 := hid h06
 have c0 := h06.c 0 rfl
 have c1 := h06.c 1 rfl
 have c2 := h06.c 2 rfl
 have c3 := h06.c 3 rfl
 have c4 := h06.c 4 rfl
 have c5 := h06.c 5 rfl
 have c6 := h06.c 6 rfl
 have c7 := h06.c 7 rfl
 have c8 := h06.c 8 rfl
 have c9 := h06.c 9 rfl
 have e0 := hm6.c 0 rfl
 have e1 := hm6.c 1 rfl
 have e2 := hm6.c 2 rfl
 have e3 := hm6.c 3 rfl
 have e4 := hm6.c 4 rfl
 have e5 := hm6.c 5 rfl
 have e6 := hm6.c 6 rfl
 have e7 := hm6.c 7 rfl
 have e8 := hm6.c 8 rfl
 have e9 := hm6.c 9 rfl
 have f0 := hm6.free 0
 have f1 := hm6.free 1
 have f2 := hm6.free 2
 have f3 := hm6.free 3
 have f4 := hm6.free 4
 have f5 := hm6.free 5
 have f6 := hm6.free 6
 have f7 := hm6.free 7
 have f8 := hm6.free 8
 have f9 := hm6.free 9
 clear a1 a2 a3 a4 h05 hm5 ht6 ho6 ho7 hB5 hB6 hin h06 hm6 hlc
 (try unfold dsV)
 clear HC
 go_wp2_with fail
 refine bodyPost_ret (results_bx10' rfl _ _ ((w.heap.size + 1 + 1)) _ _ _ _ _ _ _ _ _ _ _ 32 rfl rfl (ten_box HX.out _ _ _ _ _ _ _ _ _ _) Tryz.underlying32 (szS _)) rfl ?_
 exact ⟨r1, d1, true, rfl, HF.out⟩
set_option maxHeartbeats 8000000 in
theorem dpress_k13 (w : World) (D : Nat → Prop) (r : DR) (d : DS) (B : Nat) (h : DsAt w D r d) (hok : d.Ok B) (hB8 : B ≤ 1000000) (t : List UInt8) (ht0 : t.length ≤ 100000) :
  Calls Tryz.prog 26 #[dsV r d, .agg #[.int .i64 13, .string (bs t)]] w fun e w' => ∃ r' d' q, e = .returned (.tuple #[dsV r' d', .bool q]) ∧ DsTo w D (B + 600) w' r' d' := by
 obtain ⟨W2, hW2, hB2, hs2, hb0, hb1, hb2⟩ := boxes7k w r d 13 (bs t)
 have h0x := hb0.alloc (.cells #[.string (bs d.now.1), .int .i64 d.now.2] 28)
 have hyx := hb1.alloc (.cells #[.string (bs d.now.1), .int .i64 d.now.2] 28)
 obtain ⟨W4, hW4⟩ : ∃ W4, (W2.alloc (.cells #[.string (bs d.now.1), .int .i64 d.now.2] 28)).setCell ⟨w.heap.size, 7, none⟩ (.int .i64 0) = W4 := ⟨_, rfl⟩
 have h04 : BxA W4 w.heap.size 32 [.string (bs d.now.1), .int .i64 d.now.2, .slice r.A1 d.back.length r.c1, .slice r.A2 d.forth.length r.c2, .bool d.opn, .slice r.A3 d.kills.length r.c3, .int .i64 d.top, .int .i64 0, .int .i64 d.fr, .int .i64 d.to_] := by rw [← hW4]; exact h0x.set 7 _
 have hy4 : Bx W4 (w.heap.size + 1) 34 (.int .i64 13) (.string (bs t)) := by rw [← hW4]; exact hyx.other (by omega) _
 have hm4 : BxA W4 (w.heap.size + 1 + 1) 32 dsZ := by rw [← hW4]; exact (hb2.alloc _).other (by omega) _
 have hk4 : Bx W4 W2.heap.size 28 (.string (bs d.now.1)) (.int .i64 d.now.2) := by rw [← hW4]; exact (Bx.new W2 _ _ _).other (by omega) _
 have hB4 : Below w.heap.size w W4 := by rw [← hW4]; exact (hB2.alloc hB2.size _).setCell (p := ⟨w.heap.size, 7, none⟩) (Nat.le_refl _) _
 have hs4 : w.heap.size + 3 ≤ W4.heap.size := by rw [← hW4]; simp [World.setCell]; omega
 have hszn := bs_size d.now.1
 have hnow := hok.now
 have _ := hB8
 have _ := ht0
 have k0 := hb0.c 0 rfl
 have k1 := hb0.c 1 rfl
 have k7 := hb0.c 7 rfl
 have x7 := h0x.c 7 rfl
 have u7 := h0x.free 7
 have y0 := hyx.c0
 have z0 := hy4.c0
 have z1 := hy4.c1
 have b0 := hk4.c0
 have b1 := hk4.c1
 have c0 := h04.c 0 rfl
 have c1 := h04.c 1 rfl
 have c2 := h04.c 2 rfl
 have c3 := h04.c 3 rfl
 have c4 := h04.c 4 rfl
 have c5 := h04.c 5 rfl
 have c6 := h04.c 6 rfl
 have c7 := h04.c 7 rfl
 have c8 := h04.c 8 rfl
 have c9 := h04.c 9 rfl
 have H04 := hid h04
 have HM4 := hid hm4
 have HK4 := hid hk4
 have HY4 := hid hy4
 have HB4 := hid hB4
 have HL4 := hid hs4
 have HD := hid h
 have HO := hid hok
 have HD4 := hid ((h.below hB4).same (d' := (⟨d.now, d.back, d.forth, d.opn, d.kills, d.top, 0, d.fr, d.to_⟩ : DS)) rfl rfl rfl)
 clear hb0 hb1 hb2 hB2 h0x hyx h04 hm4 hk4 hy4 hB4 hs2 hs4 h hok
 unfold dsV
 go_enter Tryz.func26, Tryz.ntmps26
 have HC := hid (dkill_w13 W4 D r (⟨d.now, d.back, d.forth, d.opn, d.kills, d.top, 0, d.fr, d.to_⟩ : DS) B HD4.out ⟨HO.out.now, HO.out.back, HO.out.forth, HO.out.len, HO.out.kills, HO.out.small, HO.out.top⟩ hB8 (d.last == 1))
 (try unfold dsV at HC)
 go_wp2_with fail
 refine HC.out.mono ?_
 rintro e w5 ⟨r1, d1, rfl, ht⟩
 clear c0 c1 c2 c3 c4 c5 c6 c7 c8 c9
 obtain ⟨D1, a1, a2, a3, a4⟩ := ht
 have h05 := H04.out.below a4
 have hm5 := HM4.out.below a4
 have hlc := HL4.out
 have k0 := h05.c 0 rfl
 have k1 := h05.c 1 rfl
 have k2 := h05.c 2 rfl
 have k3 := h05.c 3 rfl
 have k4 := h05.c 4 rfl
 have k5 := h05.c 5 rfl
 have k6 := h05.c 6 rfl
 have k7 := h05.c 7 rfl
 have k8 := h05.c 8 rfl
 have k9 := h05.c 9 rfl
 have u0 := h05.free 0
 have u1 := h05.free 1
 have u2 := h05.free 2
 have u3 := h05.free 3
 have u4 := h05.free 4
 have u5 := h05.free 5
 have u6 := h05.free 6
 have u7 := h05.free 7
 have u8 := h05.free 8
 have u9 := h05.free 9
 obtain ⟨W6, hW6⟩ : ∃ W6, ((((((((((w5.setCell ⟨w.heap.size, 0, none⟩ (.string (bs d1.now.1))).setCell ⟨w.heap.size, 1, none⟩ (.int .i64 d1.now.2)).setCell ⟨w.heap.size, 2, none⟩ (.slice r1.A1 d1.back.length r1.c1)).setCell ⟨w.heap.size, 3, none⟩ (.slice r1.A2 d1.forth.length r1.c2)).setCell ⟨w.heap.size, 4, none⟩ (.bool d1.opn)).setCell ⟨w.heap.size, 5, none⟩ (.slice r1.A3 d1.kills.length r1.c3)).setCell ⟨w.heap.size, 6, none⟩ (.int .i64 d1.top)).setCell ⟨w.heap.size, 7, none⟩ (.int .i64 d1.last)).setCell ⟨w.heap.size, 8, none⟩ (.int .i64 d1.fr)).setCell ⟨w.heap.size, 9, none⟩ (.int .i64 d1.to_)) = W6 := ⟨_, rfl⟩
 have ht6 := ten_boxD h05 r1 d1
 have ho6 := ten_onlyD w5 w.heap.size r1 d1
 have h06 : BxA W6 w.heap.size 32 (dsK r1 d1) := by rw [← hW6]; exact ht6
 have ho7 : Only (fun i => i = w.heap.size) w5 W6 := by rw [← hW6]; exact ho6
 have hm6 : BxA W6 (w.heap.size + 1 + 1) 32 dsZ := hm5.keep ho7 (fun e => by omega)
 have hB5 := HB4.out.trans (a4.mono HB4.out.size)
 have hB6 : Below w.heap.size w W6 := hB5.trans (ho7.below hB5.size (fun i (hi : i = _) => by omega))
 have hin : DsIn D (B + 600) W6 (w.heap.size + 3) r1 d1 := ⟨D1, a1.keep ho7 (fun k hk (e : k = _) => (a3 k hk).elim (fun h1 => by have := HD.out.lt k h1; omega) (fun h1 => by omega)), a2, fun k hk => (a3 k hk).imp id (fun h => by omega)⟩
 have HX := hid hm6
 have HF : Hid (DsTo w D (B + 600) (tenD W6 (w.heap.size + 1 + 1) r1 d1) r1 d1) := hid (dsin_fin2 HD.out hin hB6 (by omega) (by omega) (.string (bs d1.now.1)) (.int .i64 d1.now.2) (.slice r1.A1 d1.back.length r1.c1) (.slice r1.A2 d1.forth.length r1.c2) (.bool d1.opn) (.slice r1.A3 d1.kills.length r1.c3) (.int .i64 d1.top) (.int .i64 d1.last) (.int .i64 d1.fr) (.int .i64 d1.to_))
 have H06 := hid h06
 have c0 := h06.c 0 rfl
 have c1 := h06.c 1 rfl
 have c2 := h06.c 2 rfl
 have c3 := h06.c 3 rfl
 have c4 := h06.c 4 rfl
 have c5 := h06.c 5 rfl
 have c6 := h06.c 6 rfl
 have c7 := h06.c 7 rfl
 have c8 := h06.c 8 rfl
 have c9 := h06.c 9 rfl
 have e0 := hm6.c 0 rfl
 have e1 := hm6.c 1 rfl
 have e2 := hm6.c 2 rfl
 have e3 := hm6.c 3 rfl
 have e4 := hm6.c 4 rfl
 have e5 := hm6.c 5 rfl
 have e6 := hm6.c 6 rfl
 have e7 := hm6.c 7 rfl
 have e8 := hm6.c 8 rfl
 have e9 := hm6.c 9 rfl
 have f0 := hm6.free 0
 have f1 := hm6.free 1
 have f2 := hm6.free 2
 have f3 := hm6.free 3
 have f4 := hm6.free 4
 have f5 := hm6.free 5
 have f6 := hm6.free 6
 have f7 := hm6.free 7
 have f8 := hm6.free 8
 have f9 := hm6.free 9
 clear a1 a2 a3 a4 h05 hm5 ht6 ho6 ho7 hB5 hB6 hin h06 hm6 hlc
 (try unfold dsV)
 clear HC
 go_wp2_with fail
 refine bodyPost_ret (results_bx10' rfl _ _ ((w.heap.size + 1 + 1)) _ _ _ _ _ _ _ _ _ _ _ 32 rfl rfl (ten_box HX.out _ _ _ _ _ _ _ _ _ _) Tryz.underlying32 (szS _)) rfl ?_
 exact ⟨r1, d1, true, rfl, HF.out⟩
set_option maxHeartbeats 8000000 in
theorem dpress_k14 (w : World) (D : Nat → Prop) (r : DR) (d : DS) (B : Nat) (h : DsAt w D r d) (hok : d.Ok B) (hB8 : B ≤ 1000000) (t : List UInt8) (ht0 : t.length ≤ 100000) :
  Calls Tryz.prog 26 #[dsV r d, .agg #[.int .i64 14, .string (bs t)]] w fun e w' => ∃ r' d' q, e = .returned (.tuple #[dsV r' d', .bool q]) ∧ DsTo w D (B + 600) w' r' d' := by
 obtain ⟨W2, hW2, hB2, hs2, hb0, hb1, hb2⟩ := boxes7k w r d 14 (bs t)
 have h0x := hb0.alloc (.cells #[.string (bs d.now.1), .int .i64 d.now.2] 28)
 have hyx := hb1.alloc (.cells #[.string (bs d.now.1), .int .i64 d.now.2] 28)
 obtain ⟨W4, hW4⟩ : ∃ W4, (W2.alloc (.cells #[.string (bs d.now.1), .int .i64 d.now.2] 28)).setCell ⟨w.heap.size, 7, none⟩ (.int .i64 0) = W4 := ⟨_, rfl⟩
 have h04 : BxA W4 w.heap.size 32 [.string (bs d.now.1), .int .i64 d.now.2, .slice r.A1 d.back.length r.c1, .slice r.A2 d.forth.length r.c2, .bool d.opn, .slice r.A3 d.kills.length r.c3, .int .i64 d.top, .int .i64 0, .int .i64 d.fr, .int .i64 d.to_] := by rw [← hW4]; exact h0x.set 7 _
 have hy4 : Bx W4 (w.heap.size + 1) 34 (.int .i64 14) (.string (bs t)) := by rw [← hW4]; exact hyx.other (by omega) _
 have hm4 : BxA W4 (w.heap.size + 1 + 1) 32 dsZ := by rw [← hW4]; exact (hb2.alloc _).other (by omega) _
 have hk4 : Bx W4 W2.heap.size 28 (.string (bs d.now.1)) (.int .i64 d.now.2) := by rw [← hW4]; exact (Bx.new W2 _ _ _).other (by omega) _
 have hB4 : Below w.heap.size w W4 := by rw [← hW4]; exact (hB2.alloc hB2.size _).setCell (p := ⟨w.heap.size, 7, none⟩) (Nat.le_refl _) _
 have hs4 : w.heap.size + 3 ≤ W4.heap.size := by rw [← hW4]; simp [World.setCell]; omega
 have hszn := bs_size d.now.1
 have hnow := hok.now
 have _ := hB8
 have _ := ht0
 have k0 := hb0.c 0 rfl
 have k1 := hb0.c 1 rfl
 have k7 := hb0.c 7 rfl
 have x7 := h0x.c 7 rfl
 have u7 := h0x.free 7
 have y0 := hyx.c0
 have z0 := hy4.c0
 have z1 := hy4.c1
 have b0 := hk4.c0
 have b1 := hk4.c1
 have c0 := h04.c 0 rfl
 have c1 := h04.c 1 rfl
 have c2 := h04.c 2 rfl
 have c3 := h04.c 3 rfl
 have c4 := h04.c 4 rfl
 have c5 := h04.c 5 rfl
 have c6 := h04.c 6 rfl
 have c7 := h04.c 7 rfl
 have c8 := h04.c 8 rfl
 have c9 := h04.c 9 rfl
 have H04 := hid h04
 have HM4 := hid hm4
 have HK4 := hid hk4
 have HY4 := hid hy4
 have HB4 := hid hB4
 have HL4 := hid hs4
 have HD := hid h
 have HO := hid hok
 have HD4 := hid ((h.below hB4).same (d' := (⟨d.now, d.back, d.forth, d.opn, d.kills, d.top, 0, d.fr, d.to_⟩ : DS)) rfl rfl rfl)
 clear hb0 hb1 hb2 hB2 h0x hyx h04 hm4 hk4 hy4 hB4 hs2 hs4 h hok
 unfold dsV
 go_enter Tryz.func26, Tryz.ntmps26
 have HC := hid (dkill_w14 W4 D r (⟨d.now, d.back, d.forth, d.opn, d.kills, d.top, 0, d.fr, d.to_⟩ : DS) B HD4.out ⟨HO.out.now, HO.out.back, HO.out.forth, HO.out.len, HO.out.kills, HO.out.small, HO.out.top⟩ hB8 (d.last == 1))
 (try unfold dsV at HC)
 go_wp2_with fail
 refine HC.out.mono ?_
 rintro e w5 ⟨r1, d1, rfl, ht⟩
 clear c0 c1 c2 c3 c4 c5 c6 c7 c8 c9
 obtain ⟨D1, a1, a2, a3, a4⟩ := ht
 have h05 := H04.out.below a4
 have hm5 := HM4.out.below a4
 have hlc := HL4.out
 have k0 := h05.c 0 rfl
 have k1 := h05.c 1 rfl
 have k2 := h05.c 2 rfl
 have k3 := h05.c 3 rfl
 have k4 := h05.c 4 rfl
 have k5 := h05.c 5 rfl
 have k6 := h05.c 6 rfl
 have k7 := h05.c 7 rfl
 have k8 := h05.c 8 rfl
 have k9 := h05.c 9 rfl
 have u0 := h05.free 0
 have u1 := h05.free 1
 have u2 := h05.free 2
 have u3 := h05.free 3
 have u4 := h05.free 4
 have u5 := h05.free 5
 have u6 := h05.free 6
 have u7 := h05.free 7
 have u8 := h05.free 8
 have u9 := h05.free 9
 obtain ⟨W6, hW6⟩ : ∃ W6, ((((((((((w5.setCell ⟨w.heap.size, 0, none⟩ (.string (bs d1.now.1))).setCell ⟨w.heap.size, 1, none⟩ (.int .i64 d1.now.2)).setCell ⟨w.heap.size, 2, none⟩ (.slice r1.A1 d1.back.length r1.c1)).setCell ⟨w.heap.size, 3, none⟩ (.slice r1.A2 d1.forth.length r1.c2)).setCell ⟨w.heap.size, 4, none⟩ (.bool d1.opn)).setCell ⟨w.heap.size, 5, none⟩ (.slice r1.A3 d1.kills.length r1.c3)).setCell ⟨w.heap.size, 6, none⟩ (.int .i64 d1.top)).setCell ⟨w.heap.size, 7, none⟩ (.int .i64 d1.last)).setCell ⟨w.heap.size, 8, none⟩ (.int .i64 d1.fr)).setCell ⟨w.heap.size, 9, none⟩ (.int .i64 d1.to_)) = W6 := ⟨_, rfl⟩
 have ht6 := ten_boxD h05 r1 d1
 have ho6 := ten_onlyD w5 w.heap.size r1 d1
 have h06 : BxA W6 w.heap.size 32 (dsK r1 d1) := by rw [← hW6]; exact ht6
 have ho7 : Only (fun i => i = w.heap.size) w5 W6 := by rw [← hW6]; exact ho6
 have hm6 : BxA W6 (w.heap.size + 1 + 1) 32 dsZ := hm5.keep ho7 (fun e => by omega)
 have hB5 := HB4.out.trans (a4.mono HB4.out.size)
 have hB6 : Below w.heap.size w W6 := hB5.trans (ho7.below hB5.size (fun i (hi : i = _) => by omega))
 have hin : DsIn D (B + 600) W6 (w.heap.size + 3) r1 d1 := ⟨D1, a1.keep ho7 (fun k hk (e : k = _) => (a3 k hk).elim (fun h1 => by have := HD.out.lt k h1; omega) (fun h1 => by omega)), a2, fun k hk => (a3 k hk).imp id (fun h => by omega)⟩
 have HX := hid hm6
 have HF : Hid (DsTo w D (B + 600) (tenD W6 (w.heap.size + 1 + 1) r1 d1) r1 d1) := hid (dsin_fin2 HD.out hin hB6 (by omega) (by omega) (.string (bs d1.now.1)) (.int .i64 d1.now.2) (.slice r1.A1 d1.back.length r1.c1) (.slice r1.A2 d1.forth.length r1.c2) (.bool d1.opn) (.slice r1.A3 d1.kills.length r1.c3) (.int .i64 d1.top) (.int .i64 d1.last) (.int .i64 d1.fr) (.int .i64 d1.to_))
 have H06 := hid h06
 have c0 := h06.c 0 rfl
 have c1 := h06.c 1 rfl
 have c2 := h06.c 2 rfl
 have c3 := h06.c 3 rfl
 have c4 := h06.c 4 rfl
 have c5 := h06.c 5 rfl
 have c6 := h06.c 6 rfl
 have c7 := h06.c 7 rfl
 have c8 := h06.c 8 rfl
 have c9 := h06.c 9 rfl
 have e0 := hm6.c 0 rfl
 have e1 := hm6.c 1 rfl
 have e2 := hm6.c 2 rfl
 have e3 := hm6.c 3 rfl
 have e4 := hm6.c 4 rfl
 have e5 := hm6.c 5 rfl
 have e6 := hm6.c 6 rfl
 have e7 := hm6.c 7 rfl
 have e8 := hm6.c 8 rfl
 have e9 := hm6.c 9 rfl
 have f0 := hm6.free 0
 have f1 := hm6.free 1
 have f2 := hm6.free 2
 have f3 := hm6.free 3
 have f4 := hm6.free 4
 have f5 := hm6.free 5
 have f6 := hm6.free 6
 have f7 := hm6.free 7
 have f8 := hm6.free 8
 have f9 := hm6.free 9
 clear a1 a2 a3 a4 h05 hm5 ht6 ho6 ho7 hB5 hB6 hin h06 hm6 hlc
 (try unfold dsV)
 clear HC
 go_wp2_with fail
 refine bodyPost_ret (results_bx10' rfl _ _ ((w.heap.size + 1 + 1)) _ _ _ _ _ _ _ _ _ _ _ 32 rfl rfl (ten_box HX.out _ _ _ _ _ _ _ _ _ _) Tryz.underlying32 (szS _)) rfl ?_
 exact ⟨r1, d1, true, rfl, HF.out⟩
end
end Go.Proofs.YtoaponaljkhlfaaGreatDoor
