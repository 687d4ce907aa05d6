/-
  Layer 7 and what it stands on, part 37 (DocT DocU DocV DocZ LnT LnLawY).
-/
import Derived.Test.YtoaponaljkhlfaaGreatDoorPz36
import Derived.Deep.Cut
namespace Go.Proofs.YtoaponaljkhlfaaGreatDoor
section
open Go Go.RowKit
open Go.Lib (hid)
set_option maxRecDepth 100000
theorem rswap_len (l : List UInt8) (n : Int) : (swapR (mS l) (mA l n)).1.length ≤ 600 := by
 have h0 := mS_len l
 unfold swapR
 split
 ·exact h0
 ·obtain ⟨k, hk, e⟩ := isB_mid (m := mS l) (a := mA l n) (isB_back _ _)
  show (swS (mS l) (prvL (mS l) (swMid (mS l) (mA l n))) (swMid (mS l) (mA l n)) (nxtL (mS l) (swMid (mS l) (mA l n)))).length ≤ 600
  rw [e, prvL_pos _ hk, nxtL_pos _ hk, swS_length _ _ _ _ (pos_mono _ (by omega)) (pos_mono _ (by omega)) (cut_len_le _ _)]
  exact h0
set_option maxHeartbeats 8000000 in
theorem dpress_k15 (w : World) (D : Nat → Prop) (r : DR) (d : DS) (B : Nat) (h : DsAt w D r d) (hok : d.Ok B) (hB8 : B ≤ 1000000) (t : List UInt8) (ht0 : t.length ≤ 100000) :
  Calls Tryz.prog 26 #[dsV r d, .agg #[.int .i64 15, .string (bs t)]] w fun e w' => ∃ r' d' q, e = .returned (.tuple #[dsV r' d', .bool q]) ∧ DsTo w D (B + 600) w' r' d' := by
 obtain ⟨W2, hW2, hB2, hs2, hb0, hb1, hb2⟩ := boxes7k w r d 15 (bs t)
 have h0x := hb0.alloc (.cells #[.string (bs d.now.1), .int .i64 d.now.2] 28)
 have hyx := hb1.alloc (.cells #[.string (bs d.now.1), .int .i64 d.now.2] 28)
 obtain ⟨W4, hW4⟩ : ∃ W4, (W2.alloc (.cells #[.string (bs d.now.1), .int .i64 d.now.2] 28)).setCell ⟨w.heap.size, 7, none⟩ (.int .i64 0) = W4 := ⟨_, rfl⟩
 have h04 : BxA W4 w.heap.size 32 [.string (bs d.now.1), .int .i64 d.now.2, .slice r.A1 d.back.length r.c1, .slice r.A2 d.forth.length r.c2, .bool d.opn, .slice r.A3 d.kills.length r.c3, .int .i64 d.top, .int .i64 0, .int .i64 d.fr, .int .i64 d.to_] := by rw [← hW4]; exact h0x.set 7 _
 have hy4 : Bx W4 (w.heap.size + 1) 34 (.int .i64 15) (.string (bs t)) := by rw [← hW4]; exact hyx.other (by omega) _
 have hm4 : BxA W4 (w.heap.size + 1 + 1) 32 dsZ := by rw [← hW4]; exact (hb2.alloc _).other (by omega) _
 have hk4 : Bx W4 W2.heap.size 28 (.string (bs d.now.1)) (.int .i64 d.now.2) := by rw [← hW4]; exact (Bx.new W2 _ _ _).other (by omega) _
 have hB4 : Below w.heap.size w W4 := by rw [← hW4]; exact (hB2.alloc hB2.size _).setCell (p := ⟨w.heap.size, 7, none⟩) (Nat.le_refl _) _
 have hs4 : w.heap.size + 3 ≤ W4.heap.size := by rw [← hW4]; simp [World.setCell]; omega
 have hszn := bs_size d.now.1
 have hnow := hok.now
 have _ := hB8
 have _ := ht0
 have k0 := hb0.c 0 rfl
 have k1 := hb0.c 1 rfl
 have k7 := hb0.c 7 rfl
 have x7 := h0x.c 7 rfl
 have u7 := h0x.free 7
 have y0 := hyx.c0
 have z0 := hy4.c0
 have z1 := hy4.c1
 have b0 := hk4.c0
 have b1 := hk4.c1
 have c0 := h04.c 0 rfl
 have c1 := h04.c 1 rfl
 have c2 := h04.c 2 rfl
 have c3 := h04.c 3 rfl
 have c4 := h04.c 4 rfl
 have c5 := h04.c 5 rfl
 have c6 := h04.c 6 rfl
 have c7 := h04.c 7 rfl
 have c8 := h04.c 8 rfl
 have c9 := h04.c 9 rfl
 have H04 := hid h04
 have HM4 := hid hm4
 have HK4 := hid hk4
 have HY4 := hid hy4
 have HB4 := hid hB4
 have HL4 := hid hs4
 have HW2 : Hid (w.heap.size < W2.heap.size) := hid (by omega)
 have HD := hid h
 have HO := hid hok
 have HD4 := hid ((h.below hB4).same (d' := (⟨d.now, d.back, d.forth, d.opn, d.kills, d.top, 0, d.fr, d.to_⟩ : DS)) rfl rfl rfl)
 have HOK5 : Hid ((⟨d.now, d.back, d.forth, d.opn, d.kills, 0, 0, d.fr, d.to_⟩ : DS).Ok B) := hid ⟨hok.now, hok.back, hok.forth, hok.len, hok.kills, hok.small, by
  by_cases hk : d.kills = []
  ·exact .inl ⟨hk, rfl⟩
  ·have := List.length_pos_iff.2 hk
   exact .inr ⟨Int.le_refl 0, show (0 : Int) < d.kills.length by omega⟩⟩
 clear hb0 hb1 hb2 hB2 h0x hyx h04 hm4 hk4 hy4 hB4 hs2 hs4 h hok
 unfold dsV
 go_enter Tryz.func26, Tryz.ntmps26
 obtain ⟨W5, hW5⟩ : ∃ W5, W4.setCell ⟨w.heap.size, 6, none⟩ (.int .i64 0) = W5 := ⟨_, rfl⟩
 have h04 := H04.out
 have g6 := h04.free 6
 have hlc := HL4.out
 have h05 : BxA W5 w.heap.size 32 [.string (bs d.now.1), .int .i64 d.now.2, .slice r.A1 d.back.length r.c1, .slice r.A2 d.forth.length r.c2, .bool d.opn, .slice r.A3 d.kills.length r.c3, .int .i64 0, .int .i64 0, .int .i64 d.fr, .int .i64 d.to_] := by rw [← hW5]; exact h04.set 6 _
 have hm5 : BxA W5 (w.heap.size + 1 + 1) 32 dsZ := by rw [← hW5]; exact HM4.out.other (by omega) _
 have hk5 : Bx W5 W2.heap.size 28 (.string (bs d.now.1)) (.int .i64 d.now.2) := by rw [← hW5]; exact HK4.out.other (by have := HW2.out; omega) _
 have ho5 : Only (fun i => i = w.heap.size) W4 W5 := by rw [← hW5]; exact (Only.refl (fun i => i = w.heap.size) W4).set (p := ⟨w.heap.size, 6, none⟩) (.inl rfl) _
 have hB5 := HB4.out.trans (ho5.below HB4.out.size (fun i (hi : i = _) => by omega))
 have H05 := hid h05
 have HM5 := hid hm5
 have HB5 := hid hB5
 have HL5 : Hid (w.heap.size + 3 ≤ W5.heap.size) := hid (Nat.le_trans hlc ho5.size)
 have HC := hid (dyank_calls W5 D r (⟨d.now, d.back, d.forth, d.opn, d.kills, 0, 0, d.fr, d.to_⟩ : DS) B ((HD.out.below hB5).same rfl rfl rfl) HOK5.out hB8 d.now hnow)
 (try unfold dsV biV at HC)
 have s0 := h05.c 0 rfl
 have s1 := h05.c 1 rfl
 have s2 := h05.c 2 rfl
 have s3 := h05.c 3 rfl
 have s4 := h05.c 4 rfl
 have s5 := h05.c 5 rfl
 have s6 := h05.c 6 rfl
 have s7 := h05.c 7 rfl
 have s8 := h05.c 8 rfl
 have s9 := h05.c 9 rfl
 have v0 := hk5.c0
 have v1 := hk5.c1
 clear h04 h05 hm5 hk5 ho5 hB5 hlc
 go_wp2_with fail
 refine HC.out.mono ?_
 rintro e w5 ⟨r1, d1, rfl, ht⟩
 clear c0 c1 c2 c3 c4 c5 c6 c7 c8 c9
 clear s0 s1 s2 s3 s4 s5 s6 s7 s8 s9
 obtain ⟨D1, a1, a2, a3, a4⟩ := ht
 have h05 := H05.out.below a4
 have hm5 := HM5.out.below a4
 have hlc := HL5.out
 have k0 := h05.c 0 rfl
 have k1 := h05.c 1 rfl
 have k2 := h05.c 2 rfl
 have k3 := h05.c 3 rfl
 have k4 := h05.c 4 rfl
 have k5 := h05.c 5 rfl
 have k6 := h05.c 6 rfl
 have k7 := h05.c 7 rfl
 have k8 := h05.c 8 rfl
 have k9 := h05.c 9 rfl
 have u0 := h05.free 0
 have u1 := h05.free 1
 have u2 := h05.free 2
 have u3 := h05.free 3
 have u4 := h05.free 4
 have u5 := h05.free 5
 have u6 := h05.free 6
 have u7 := h05.free 7
 have u8 := h05.free 8
 have u9 := h05.free 9
 obtain ⟨W6, hW6⟩ : ∃ W6, ((((((((((w5.setCell ⟨w.heap.size, 0, none⟩ (.string (bs d1.now.1))).setCell ⟨w.heap.size, 1, none⟩ (.int .i64 d1.now.2)).setCell ⟨w.heap.size, 2, none⟩ (.slice r1.A1 d1.back.length r1.c1)).setCell ⟨w.heap.size, 3, none⟩ (.slice r1.A2 d1.forth.length r1.c2)).setCell ⟨w.heap.size, 4, none⟩ (.bool d1.opn)).setCell ⟨w.heap.size, 5, none⟩ (.slice r1.A3 d1.kills.length r1.c3)).setCell ⟨w.heap.size, 6, none⟩ (.int .i64 d1.top)).setCell ⟨w.heap.size, 7, none⟩ (.int .i64 d1.last)).setCell ⟨w.heap.size, 8, none⟩ (.int .i64 d1.fr)).setCell ⟨w.heap.size, 9, none⟩ (.int .i64 d1.to_)) = W6 := ⟨_, rfl⟩
 have ht6 := ten_boxD h05 r1 d1
 have ho6 := ten_onlyD w5 w.heap.size r1 d1
 have h06 : BxA W6 w.heap.size 32 (dsK r1 d1) := by rw [← hW6]; exact ht6
 have ho7 : Only (fun i => i = w.heap.size) w5 W6 := by rw [← hW6]; exact ho6
 have hm6 : BxA W6 (w.heap.size + 1 + 1) 32 dsZ := hm5.keep ho7 (fun e => by omega)
 have hB5 := HB5.out.trans (a4.mono HB5.out.size)
 have hB6 : Below w.heap.size w W6 := hB5.trans (ho7.below hB5.size (fun i (hi : i = _) => by omega))
 have hin : DsIn D (B + 600) W6 (w.heap.size + 3) r1 d1 := ⟨D1, a1.keep ho7 (fun k hk (e : k = _) => (a3 k hk).elim (fun h1 => by have := HD.out.lt k h1; omega) (fun h1 => by omega)), a2.more, fun k hk => (a3 k hk).imp id (fun h => by omega)⟩
 have HX := hid hm6
 have HF : Hid (DsTo w D (B + 600) (tenD W6 (w.heap.size + 1 + 1) r1 d1) r1 d1) := hid (dsin_fin2 HD.out hin hB6 (by omega) (by omega) (.string (bs d1.now.1)) (.int .i64 d1.now.2) (.slice r1.A1 d1.back.length r1.c1) (.slice r1.A2 d1.forth.length r1.c2) (.bool d1.opn) (.slice r1.A3 d1.kills.length r1.c3) (.int .i64 d1.top) (.int .i64 d1.last) (.int .i64 d1.fr) (.int .i64 d1.to_))
 have H06 := hid h06
 have c0 := h06.c 0 rfl
 have c1 := h06.c 1 rfl
 have c2 := h06.c 2 rfl
 have c3 := h06.c 3 rfl
 have c4 := h06.c 4 rfl
 have c5 := h06.c 5 rfl
 have c6 := h06.c 6 rfl
 have c7 := h06.c 7 rfl
 have c8 := h06.c 8 rfl
 have c9 := h06.c 9 rfl
 have e0 := hm6.c 0 rfl
 have e1 := hm6.c 1 rfl
 have e2 := hm6.c 2 rfl
 have e3 := hm6.c 3 rfl
 have e4 := hm6.c 4 rfl
 have e5 := hm6.c 5 rfl
 have e6 := hm6.c 6 rfl
 have e7 := hm6.c 7 rfl
 have e8 := hm6.c 8 rfl
 have e9 := hm6.c 9 rfl
 have f0 := hm6.free 0
 have f1 := hm6.free 1
 have f2 := hm6.free 2
 have f3 := hm6.free 3
 have f4 := hm6.free 4
 have f5 := hm6.free 5
 have f6 := hm6.free 6
 have f7 := hm6.free 7
 have f8 := hm6.free 8
 have f9 := hm6.free 9
 clear a1 a2 a3 a4 h05 hm5 ht6 ho6 ho7 hB5 hB6 hin h06 hm6 hlc
 (try unfold dsV)
 clear HC
 go_wp2_with fail
 refine bodyPost_ret (results_bx10' rfl _ _ ((w.heap.size + 1 + 1)) _ _ _ _ _ _ _ _ _ _ _ 32 rfl rfl (ten_box HX.out _ _ _ _ _ _ _ _ _ _) Tryz.underlying32 (szS _)) rfl ?_
 exact ⟨r1, d1, true, rfl, HF.out⟩
set_option maxHeartbeats 8000000 in
theorem dpress_k16 (w : World) (D : Nat → Prop) (r : DR) (d : DS) (B : Nat) (h : DsAt w D r d) (hok : d.Ok B) (hB8 : B ≤ 1000000) (t : List UInt8) (ht0 : t.length ≤ 100000) :
  Calls Tryz.prog 26 #[dsV r d, .agg #[.int .i64 16, .string (bs t)]] w fun e w' => ∃ r' d' q, e = .returned (.tuple #[dsV r' d', .bool q]) ∧ DsTo w D (B + 600) w' r' d' := by
 obtain ⟨W2, hW2, hB2, hs2, hb0, hb1, hb2⟩ := boxes7k w r d 16 (bs t)
 have h0x := hb0.alloc (.cells #[.string (bs d.now.1), .int .i64 d.now.2] 28)
 have hyx := hb1.alloc (.cells #[.string (bs d.now.1), .int .i64 d.now.2] 28)
 obtain ⟨W4, hW4⟩ : ∃ W4, (W2.alloc (.cells #[.string (bs d.now.1), .int .i64 d.now.2] 28)).setCell ⟨w.heap.size, 7, none⟩ (.int .i64 0) = W4 := ⟨_, rfl⟩
 have h04 : BxA W4 w.heap.size 32 [.string (bs d.now.1), .int .i64 d.now.2, .slice r.A1 d.back.length r.c1, .slice r.A2 d.forth.length r.c2, .bool d.opn, .slice r.A3 d.kills.length r.c3, .int .i64 d.top, .int .i64 0, .int .i64 d.fr, .int .i64 d.to_] := by rw [← hW4]; exact h0x.set 7 _
 have hy4 : Bx W4 (w.heap.size + 1) 34 (.int .i64 16) (.string (bs t)) := by rw [← hW4]; exact hyx.other (by omega) _
 have hm4 : BxA W4 (w.heap.size + 1 + 1) 32 dsZ := by rw [← hW4]; exact (hb2.alloc _).other (by omega) _
 have hk4 : Bx W4 W2.heap.size 28 (.string (bs d.now.1)) (.int .i64 d.now.2) := by rw [← hW4]; exact (Bx.new W2 _ _ _).other (by omega) _
 have hB4 : Below w.heap.size w W4 := by rw [← hW4]; exact (hB2.alloc hB2.size _).setCell (p := ⟨w.heap.size, 7, none⟩) (Nat.le_refl _) _
 have hs4 : w.heap.size + 3 ≤ W4.heap.size := by rw [← hW4]; simp [World.setCell]; omega
 have hszn := bs_size d.now.1
 have hnow := hok.now
 have _ := hB8
 have _ := ht0
 have k0 := hb0.c 0 rfl
 have k1 := hb0.c 1 rfl
 have k7 := hb0.c 7 rfl
 have x7 := h0x.c 7 rfl
 have u7 := h0x.free 7
 have y0 := hyx.c0
 have z0 := hy4.c0
 have z1 := hy4.c1
 have b0 := hk4.c0
 have b1 := hk4.c1
 have c0 := h04.c 0 rfl
 have c1 := h04.c 1 rfl
 have c2 := h04.c 2 rfl
 have c3 := h04.c 3 rfl
 have c4 := h04.c 4 rfl
 have c5 := h04.c 5 rfl
 have c6 := h04.c 6 rfl
 have c7 := h04.c 7 rfl
 have c8 := h04.c 8 rfl
 have c9 := h04.c 9 rfl
 have H04 := hid h04
 have HM4 := hid hm4
 have HK4 := hid hk4
 have HY4 := hid hy4
 have HB4 := hid hB4
 have HL4 := hid hs4
 have HD := hid h
 have HO := hid hok
 have HD4 := hid ((h.below hB4).same (d' := (⟨d.now, d.back, d.forth, d.opn, d.kills, d.top, 0, d.fr, d.to_⟩ : DS)) rfl rfl rfl)
 clear hb0 hb1 hb2 hB2 h0x hyx h04 hm4 hk4 hy4 hB4 hs2 hs4 h hok
 unfold dsV
 go_enter Tryz.func26, Tryz.ntmps26
 have HC := hid (dpop_calls W4 D r (⟨d.now, d.back, d.forth, d.opn, d.kills, d.top, 0, d.fr, d.to_⟩ : DS) B HD4.out ⟨HO.out.now, HO.out.back, HO.out.forth, HO.out.len, HO.out.kills, HO.out.small, HO.out.top⟩ hB8)
 (try unfold dsV at HC)
 by_cases hl2 : d.last = 2
 ·have hz : (d.last == 2) = true := beq_iff_eq.2 hl2
  clear hl2
  go_wp2_with fail
  refine HC.out.mono ?_
  rintro e w5 ⟨r1, d1, rfl, ht⟩
  clear c0 c1 c2 c3 c4 c5 c6 c7 c8 c9
  obtain ⟨D1, a1, a2, a3, a4⟩ := ht
  have h05 := H04.out.below a4
  have hm5 := HM4.out.below a4
  have hlc := HL4.out
  have k0 := h05.c 0 rfl
  have k1 := h05.c 1 rfl
  have k2 := h05.c 2 rfl
  have k3 := h05.c 3 rfl
  have k4 := h05.c 4 rfl
  have k5 := h05.c 5 rfl
  have k6 := h05.c 6 rfl
  have k7 := h05.c 7 rfl
  have k8 := h05.c 8 rfl
  have k9 := h05.c 9 rfl
  have u0 := h05.free 0
  have u1 := h05.free 1
  have u2 := h05.free 2
  have u3 := h05.free 3
  have u4 := h05.free 4
  have u5 := h05.free 5
  have u6 := h05.free 6
  have u7 := h05.free 7
  have u8 := h05.free 8
  have u9 := h05.free 9
  obtain ⟨W6, hW6⟩ : ∃ W6, ((((((((((w5.setCell ⟨w.heap.size, 0, none⟩ (.string (bs d1.now.1))).setCell ⟨w.heap.size, 1, none⟩ (.int .i64 d1.now.2)).setCell ⟨w.heap.size, 2, none⟩ (.slice r1.A1 d1.back.length r1.c1)).setCell ⟨w.heap.size, 3, none⟩ (.slice r1.A2 d1.forth.length r1.c2)).setCell ⟨w.heap.size, 4, none⟩ (.bool d1.opn)).setCell ⟨w.heap.size, 5, none⟩ (.slice r1.A3 d1.kills.length r1.c3)).setCell ⟨w.heap.size, 6, none⟩ (.int .i64 d1.top)).setCell ⟨w.heap.size, 7, none⟩ (.int .i64 d1.last)).setCell ⟨w.heap.size, 8, none⟩ (.int .i64 d1.fr)).setCell ⟨w.heap.size, 9, none⟩ (.int .i64 d1.to_)) = W6 := ⟨_, rfl⟩
  have ht6 := ten_boxD h05 r1 d1
  have ho6 := ten_onlyD w5 w.heap.size r1 d1
  have h06 : BxA W6 w.heap.size 32 (dsK r1 d1) := by rw [← hW6]; exact ht6
  have ho7 : Only (fun i => i = w.heap.size) w5 W6 := by rw [← hW6]; exact ho6
  have hm6 : BxA W6 (w.heap.size + 1 + 1) 32 dsZ := hm5.keep ho7 (fun e => by omega)
  have hB5 := HB4.out.trans (a4.mono HB4.out.size)
  have hB6 : Below w.heap.size w W6 := hB5.trans (ho7.below hB5.size (fun i (hi : i = _) => by omega))
  have hin : DsIn D (B + 600) W6 (w.heap.size + 3) r1 d1 := ⟨D1, a1.keep ho7 (fun k hk (e : k = _) => (a3 k hk).elim (fun h1 => by have := HD.out.lt k h1; omega) (fun h1 => by omega)), a2.more, fun k hk => (a3 k hk).imp id (fun h => by omega)⟩
  have HX := hid hm6
  have HF : Hid (DsTo w D (B + 600) (tenD W6 (w.heap.size + 1 + 1) r1 d1) r1 d1) := hid (dsin_fin2 HD.out hin hB6 (by omega) (by omega) (.string (bs d1.now.1)) (.int .i64 d1.now.2) (.slice r1.A1 d1.back.length r1.c1) (.slice r1.A2 d1.forth.length r1.c2) (.bool d1.opn) (.slice r1.A3 d1.kills.length r1.c3) (.int .i64 d1.top) (.int .i64 d1.last) (.int .i64 d1.fr) (.int .i64 d1.to_))
  have H06 := hid h06
  have c0 := h06.c 0 rfl
  have c1 := h06.c 1 rfl
  have c2 := h06.c 2 rfl
  have c3 := h06.c 3 rfl
  have c4 := h06.c 4 rfl
  have c5 := h06.c 5 rfl
  have c6 := h06.c 6 rfl
  have c7 := h06.c 7 rfl
  have c8 := h06.c 8 rfl
  have c9 := h06.c 9 rfl
  have e0 := hm6.c 0 rfl
  have e1 := hm6.c 1 rfl
  have e2 := hm6.c 2 rfl
  have e3 := hm6.c 3 rfl
  have e4 := hm6.c 4 rfl
  have e5 := hm6.c 5 rfl
  have e6 := hm6.c 6 rfl
  have e7 := hm6.c 7 rfl
  have e8 := hm6.c 8 rfl
  have e9 := hm6.c 9 rfl
  have f0 := hm6.free 0
  have f1 := hm6.free 1
  have f2 := hm6.free 2
  have f3 := hm6.free 3
  have f4 := hm6.free 4
  have f5 := hm6.free 5
  have f6 := hm6.free 6
  have f7 := hm6.free 7
  have f8 := hm6.free 8
  have f9 := hm6.free 9
  clear a1 a2 a3 a4 h05 hm5 ht6 ho6 ho7 hB5 hB6 hin h06 hm6 hlc
  (try unfold dsV)
  clear HC
  go_wp2_with fail
  refine bodyPost_ret (results_bx10' rfl _ _ ((w.heap.size + 1 + 1)) _ _ _ _ _ _ _ _ _ _ _ 32 rfl rfl (ten_box HX.out _ _ _ _ _ _ _ _ _ _) Tryz.underlying32 (szS _)) rfl ?_
  exact ⟨r1, d1, true, rfl, HF.out⟩
 ·have hz : (d.last == 2) = false := beq_eq_false_iff_ne.2 hl2
  clear hl2 HC
  have hm4 := HM4.out
  have HX := HM4
  have e0 := hm4.c 0 rfl
  have e1 := hm4.c 1 rfl
  have e2 := hm4.c 2 rfl
  have e3 := hm4.c 3 rfl
  have e4 := hm4.c 4 rfl
  have e5 := hm4.c 5 rfl
  have e6 := hm4.c 6 rfl
  have e7 := hm4.c 7 rfl
  have e8 := hm4.c 8 rfl
  have e9 := hm4.c 9 rfl
  have f0 := hm4.free 0
  have f1 := hm4.free 1
  have f2 := hm4.free 2
  have f3 := hm4.free 3
  have f4 := hm4.free 4
  have f5 := hm4.free 5
  have f6 := hm4.free 6
  have f7 := hm4.free 7
  have f8 := hm4.free 8
  have f9 := hm4.free 9
  clear hm4
  (try unfold dsV)
  go_wp2_with fail
  refine bodyPost_ret (results_bx10' rfl _ _ ((w.heap.size + 1 + 1)) _ _ _ _ _ _ _ _ _ _ _ 32 rfl rfl (ten_box HX.out _ _ _ _ _ _ _ _ _ _) Tryz.underlying32 (szS _)) rfl ?_
  exact ⟨r, (⟨d.now, d.back, d.forth, d.opn, d.kills, d.top, 0, d.fr, d.to_⟩ : DS), true, rfl, dsin_fin2 (Z := W4.heap.size) (M := (w.heap.size + 1 + 1)) (d := (⟨d.now, d.back, d.forth, d.opn, d.kills, d.top, 0, d.fr, d.to_⟩ : DS)) HD.out ⟨D, HD4.out, (show (⟨d.now, d.back, d.forth, d.opn, d.kills, d.top, 0, d.fr, d.to_⟩ : DS).Ok B from ⟨HO.out.now, HO.out.back, HO.out.forth, HO.out.len, HO.out.kills, HO.out.small, HO.out.top⟩).more, fun _ h => .inl h⟩ HB4.out (by omega) (by have := HL4.out; omega) _ _ _ _ _ _ _ _ _ _ (by have := HL4.out; omega)⟩
set_option maxHeartbeats 8000000 in
theorem dpress_k24 (w : World) (D : Nat → Prop) (r : DR) (d : DS) (B : Nat) (h : DsAt w D r d) (hok : d.Ok B) (hB8 : B ≤ 1000000) (t : List UInt8) (ht0 : t.length ≤ 100000) :
  Calls Tryz.prog 26 #[dsV r d, .agg #[.int .i64 24, .string (bs t)]] w fun e w' => ∃ r' d' q, e = .returned (.tuple #[dsV r' d', .bool q]) ∧ DsTo w D (B + 600) w' r' d' := by
 obtain ⟨W2, hW2, hB2, hs2, hb0, hb1, hb2⟩ := boxes7k w r d 24 (bs t)
 have h0x := hb0.alloc (.cells #[.string (bs d.now.1), .int .i64 d.now.2] 28)
 have hyx := hb1.alloc (.cells #[.string (bs d.now.1), .int .i64 d.now.2] 28)
 obtain ⟨W4, hW4⟩ : ∃ W4, (W2.alloc (.cells #[.string (bs d.now.1), .int .i64 d.now.2] 28)).setCell ⟨w.heap.size, 7, none⟩ (.int .i64 0) = W4 := ⟨_, rfl⟩
 have h04 : BxA W4 w.heap.size 32 [.string (bs d.now.1), .int .i64 d.now.2, .slice r.A1 d.back.length r.c1, .slice r.A2 d.forth.length r.c2, .bool d.opn, .slice r.A3 d.kills.length r.c3, .int .i64 d.top, .int .i64 0, .int .i64 d.fr, .int .i64 d.to_] := by rw [← hW4]; exact h0x.set 7 _
 have hy4 : Bx W4 (w.heap.size + 1) 34 (.int .i64 24) (.string (bs t)) := by rw [← hW4]; exact hyx.other (by omega) _
 have hm4 : BxA W4 (w.heap.size + 1 + 1) 32 dsZ := by rw [← hW4]; exact (hb2.alloc _).other (by omega) _
 have hk4 : Bx W4 W2.heap.size 28 (.string (bs d.now.1)) (.int .i64 d.now.2) := by rw [← hW4]; exact (Bx.new W2 _ _ _).other (by omega) _
 have hB4 : Below w.heap.size w W4 := by rw [← hW4]; exact (hB2.alloc hB2.size _).setCell (p := ⟨w.heap.size, 7, none⟩) (Nat.le_refl _) _
 have hs4 : w.heap.size + 3 ≤ W4.heap.size := by rw [← hW4]; simp [World.setCell]; omega
 have hszn := bs_size d.now.1
 have hnow := hok.now
 have _ := hB8
 have _ := ht0
 have k0 := hb0.c 0 rfl
 have k1 := hb0.c 1 rfl
 have k7 := hb0.c 7 rfl
 have x7 := h0x.c 7 rfl
 have u7 := h0x.free 7
 have y0 := hyx.c0
 have z0 := hy4.c0
 have z1 := hy4.c1
 have b0 := hk4.c0
 have b1 := hk4.c1
 have c0 := h04.c 0 rfl
 have c1 := h04.c 1 rfl
 have c2 := h04.c 2 rfl
 have c3 := h04.c 3 rfl
 have c4 := h04.c 4 rfl
 have c5 := h04.c 5 rfl
 have c6 := h04.c 6 rfl
 have c7 := h04.c 7 rfl
 have c8 := h04.c 8 rfl
 have c9 := h04.c 9 rfl
 have H04 := hid h04
 have HM4 := hid hm4
 have HK4 := hid hk4
 have HY4 := hid hy4
 have HB4 := hid hB4
 have HL4 := hid hs4
 have HD := hid h
 have HO := hid hok
 have HD4 := hid ((h.below hB4).same (d' := (⟨d.now, d.back, d.forth, d.opn, d.kills, d.top, 0, d.fr, d.to_⟩ : DS)) rfl rfl rfl)
 have HSw := hid (rswap_calls d.now.1 d.now.2 (by omega) W4)
 have hsl := rswap_len d.now.1 d.now.2
 clear hb0 hb1 hb2 hB2 h0x hyx h04 hm4 hk4 hy4 hB4 hs2 hs4 h hok
 unfold dsV
 go_enter Tryz.func26, Tryz.ntmps26
 generalize (swapR (mS d.now.1) (mA d.now.1 d.now.2)).1 = p at *
 generalize ((swapR (mS d.now.1) (mA d.now.1 d.now.2)).2.1 : Int) = q at *
 generalize (swapR (mS d.now.1) (mA d.now.1 d.now.2)).2.2 = is_ at *
 go_wp2_with fail
 refine HSw.out.mono ?_
 rintro e w4 ⟨rfl, hb4⟩
 have h0a := (H04.out.below hb4).alloc (.cells #[.string (bs p), .int .i64 q] 28)
 have hma := (HM4.out.below hb4).alloc (.cells #[.string (bs p), .int .i64 q] 28)
 have hxa := Bx.new w4 28 (.string (bs p)) (.int .i64 q)
 have hBa := (HB4.out.trans (hb4.mono HB4.out.size)).alloc (by have := HB4.out.size; have := hb4.size; omega) (.cells #[.string (bs p), .int .i64 q] 28)
 have H0a := hid h0a
 have HMa := hid hma
 have HBa := hid hBa
 have HLa : Hid (w.heap.size + 3 ≤ (w4.alloc (.cells #[.string (bs p), .int .i64 q] 28)).heap.size) := hid (Nat.le_trans (Nat.le_trans HL4.out hb4.size) (by simp))
 clear c0 c1 c2 c3 c4 c5 c6 c7 c8 c9
 clear hb4 HSw
 cases is_ with
 | false =>
  have HX := HMa
  have c0 := h0a.c 0 rfl
  have c1 := h0a.c 1 rfl
  have c2 := h0a.c 2 rfl
  have c3 := h0a.c 3 rfl
  have c4 := h0a.c 4 rfl
  have c5 := h0a.c 5 rfl
  have c6 := h0a.c 6 rfl
  have c7 := h0a.c 7 rfl
  have c8 := h0a.c 8 rfl
  have c9 := h0a.c 9 rfl
  have e0 := hma.c 0 rfl
  have e1 := hma.c 1 rfl
  have e2 := hma.c 2 rfl
  have e3 := hma.c 3 rfl
  have e4 := hma.c 4 rfl
  have e5 := hma.c 5 rfl
  have e6 := hma.c 6 rfl
  have e7 := hma.c 7 rfl
  have e8 := hma.c 8 rfl
  have e9 := hma.c 9 rfl
  have f0 := hma.free 0
  have f1 := hma.free 1
  have f2 := hma.free 2
  have f3 := hma.free 3
  have f4 := hma.free 4
  have f5 := hma.free 5
  have f6 := hma.free 6
  have f7 := hma.free 7
  have f8 := hma.free 8
  have f9 := hma.free 9
  clear h0a hma hxa hBa
  (try unfold dsV)
  go_wp2_with fail
  refine bodyPost_ret (results_bx10' rfl _ _ ((w.heap.size + 1 + 1)) _ _ _ _ _ _ _ _ _ _ _ 32 rfl rfl (ten_box HX.out _ _ _ _ _ _ _ _ _ _) Tryz.underlying32 (szS _)) rfl ?_
  exact ⟨r, (⟨d.now, d.back, d.forth, d.opn, d.kills, d.top, 0, d.fr, d.to_⟩ : DS), true, rfl, dsin_fin2 (Z := (w4.alloc (.cells #[.string (bs p), .int .i64 q] 28)).heap.size) (M := (w.heap.size + 1 + 1)) (d := (⟨d.now, d.back, d.forth, d.opn, d.kills, d.top, 0, d.fr, d.to_⟩ : DS)) HD.out ⟨D, (HD.out.below HBa.out).same rfl rfl rfl, (show (⟨d.now, d.back, d.forth, d.opn, d.kills, d.top, 0, d.fr, d.to_⟩ : DS).Ok B from ⟨HO.out.now, HO.out.back, HO.out.forth, HO.out.len, HO.out.kills, HO.out.small, HO.out.top⟩).more, fun _ h => .inl h⟩ HBa.out (by omega) (by have := HLa.out; omega) _ _ _ _ _ _ _ _ _ _ (by have := HLa.out; omega)⟩
 | true =>
  have HC := hid (dwrite_calls (w4.alloc (.cells #[.string (bs p), .int .i64 q] 28)) D r (⟨d.now, d.back, d.forth, d.opn, d.kills, d.top, 0, d.fr, d.to_⟩ : DS) B ((HD.out.below hBa).same rfl rfl rfl) ⟨HO.out.now, HO.out.back, HO.out.forth, HO.out.len, HO.out.kills, HO.out.small, HO.out.top⟩ (p, q) hsl false)
  (try unfold dsV biV at HC)
  have c0 := h0a.c 0 rfl
  have c1 := h0a.c 1 rfl
  have c2 := h0a.c 2 rfl
  have c3 := h0a.c 3 rfl
  have c4 := h0a.c 4 rfl
  have c5 := h0a.c 5 rfl
  have c6 := h0a.c 6 rfl
  have c7 := h0a.c 7 rfl
  have c8 := h0a.c 8 rfl
  have c9 := h0a.c 9 rfl
  have v0 := hxa.c0
  have v1 := hxa.c1
  clear h0a hma hxa hBa
  go_wp2_with fail
  refine HC.out.mono ?_
  rintro e w5 ⟨r1, d1, rfl, ht⟩
  clear c0 c1 c2 c3 c4 c5 c6 c7 c8 c9
  obtain ⟨D1, a1, a2, a3, a4⟩ := ht
  have h05 := H0a.out.below a4
  have hm5 := HMa.out.below a4
  have hlc := HLa.out
  have k0 := h05.c 0 rfl
  have k1 := h05.c 1 rfl
  have k2 := h05.c 2 rfl
  have k3 := h05.c 3 rfl
  have k4 := h05.c 4 rfl
  have k5 := h05.c 5 rfl
  have k6 := h05.c 6 rfl
  have k7 := h05.c 7 rfl
  have k8 := h05.c 8 rfl
  have k9 := h05.c 9 rfl
  have u0 := h05.free 0
  have u1 := h05.free 1
  have u2 := h05.free 2
  have u3 := h05.free 3
  have u4 := h05.free 4
  have u5 := h05.free 5
  have u6 := h05.free 6
  have u7 := h05.free 7
  have u8 := h05.free 8
  have u9 := h05.free 9
  obtain ⟨W6, hW6⟩ : ∃ W6, ((((((((((w5.setCell ⟨w.heap.size, 0, none⟩ (.string (bs d1.now.1))).setCell ⟨w.heap.size, 1, none⟩ (.int .i64 d1.now.2)).setCell ⟨w.heap.size, 2, none⟩ (.slice r1.A1 d1.back.length r1.c1)).setCell ⟨w.heap.size, 3, none⟩ (.slice r1.A2 d1.forth.length r1.c2)).setCell ⟨w.heap.size, 4, none⟩ (.bool d1.opn)).setCell ⟨w.heap.size, 5, none⟩ (.slice r1.A3 d1.kills.length r1.c3)).setCell ⟨w.heap.size, 6, none⟩ (.int .i64 d1.top)).setCell ⟨w.heap.size, 7, none⟩ (.int .i64 d1.last)).setCell ⟨w.heap.size, 8, none⟩ (.int .i64 d1.fr)).setCell ⟨w.heap.size, 9, none⟩ (.int .i64 d1.to_)) = W6 := ⟨_, rfl⟩
  have ht6 := ten_boxD h05 r1 d1
  have ho6 := ten_onlyD w5 w.heap.size r1 d1
  have h06 : BxA W6 w.heap.size 32 (dsK r1 d1) := by rw [← hW6]; exact ht6
  have ho7 : Only (fun i => i = w.heap.size) w5 W6 := by rw [← hW6]; exact ho6
  have hm6 : BxA W6 (w.heap.size + 1 + 1) 32 dsZ := hm5.keep ho7 (fun e => by omega)
  have hB5 := HBa.out.trans (a4.mono HBa.out.size)
  have hB6 : Below w.heap.size w W6 := hB5.trans (ho7.below hB5.size (fun i (hi : i = _) => by omega))
  have hin : DsIn D (B + 600) W6 (w.heap.size + 3) r1 d1 := ⟨D1, a1.keep ho7 (fun k hk (e : k = _) => (a3 k hk).elim (fun h1 => by have := HD.out.lt k h1; omega) (fun h1 => by omega)), a2.more, fun k hk => (a3 k hk).imp id (fun h => by omega)⟩
  have HX := hid hm6
  have HF : Hid (DsTo w D (B + 600) (tenD W6 (w.heap.size + 1 + 1) r1 d1) r1 d1) := hid (dsin_fin2 HD.out hin hB6 (by omega) (by omega) (.string (bs d1.now.1)) (.int .i64 d1.now.2) (.slice r1.A1 d1.back.length r1.c1) (.slice r1.A2 d1.forth.length r1.c2) (.bool d1.opn) (.slice r1.A3 d1.kills.length r1.c3) (.int .i64 d1.top) (.int .i64 d1.last) (.int .i64 d1.fr) (.int .i64 d1.to_))
  have H06 := hid h06
  have c0 := h06.c 0 rfl
  have c1 := h06.c 1 rfl
  have c2 := h06.c 2 rfl
  have c3 := h06.c 3 rfl
  have c4 := h06.c 4 rfl
  have c5 := h06.c 5 rfl
  have c6 := h06.c 6 rfl
  have c7 := h06.c 7 rfl
  have c8 := h06.c 8 rfl
  have c9 := h06.c 9 rfl
  have e0 := hm6.c 0 rfl
  have e1 := hm6.c 1 rfl
  have e2 := hm6.c 2 rfl
  have e3 := hm6.c 3 rfl
  have e4 := hm6.c 4 rfl
  have e5 := hm6.c 5 rfl
  have e6 := hm6.c 6 rfl
  have e7 := hm6.c 7 rfl
  have e8 := hm6.c 8 rfl
  have e9 := hm6.c 9 rfl
  have f0 := hm6.free 0
  have f1 := hm6.free 1
  have f2 := hm6.free 2
  have f3 := hm6.free 3
  have f4 := hm6.free 4
  have f5 := hm6.free 5
  have f6 := hm6.free 6
  have f7 := hm6.free 7
  have f8 := hm6.free 8
  have f9 := hm6.free 9
  clear a1 a2 a3 a4 h05 hm5 ht6 ho6 ho7 hB5 hB6 hin h06 hm6 hlc
  (try unfold dsV)
  clear HC
  go_wp2_with fail
  refine bodyPost_ret (results_bx10' rfl _ _ ((w.heap.size + 1 + 1)) _ _ _ _ _ _ _ _ _ _ _ 32 rfl rfl (ten_box HX.out _ _ _ _ _ _ _ _ _ _) Tryz.underlying32 (szS _)) rfl ?_
  exact ⟨r1, d1, true, rfl, HF.out⟩
set_option maxHeartbeats 8000000 in
theorem dpress_kn (w : World) (D : Nat → Prop) (r : DR) (d : DS) (B : Nat) (h : DsAt w D r d) (hok : d.Ok B) (t : List UInt8) (kk : Int) (hk : LN.known kk = false) :
  Calls Tryz.prog 26 #[dsV r d, .agg #[.int .i64 kk, .string (bs t)]] w fun e w' => ∃ r' d' q, e = .returned (.tuple #[dsV r' d', .bool q]) ∧ DsTo w D (B + 600) w' r' d' := by
 obtain ⟨W2, hW2, hB2, hs2, hb0, hb1, hb2⟩ := boxes7k w r d kk (bs t)
 have h0x := hb0.alloc (.cells #[.string (bs d.now.1), .int .i64 d.now.2] 28)
 have hyx := hb1.alloc (.cells #[.string (bs d.now.1), .int .i64 d.now.2] 28)
 have hmx := hb2.alloc (.cells #[.string (bs d.now.1), .int .i64 d.now.2] 28)
 have hBx := hB2.alloc hB2.size (.cells #[.string (bs d.now.1), .int .i64 d.now.2] 28)
 have hkn : ¬ (kk = 1 ∨ (3 ≤ kk ∧ kk ≤ 18) ∨ kk = 24 ∨ kk = 26) := of_decide_eq_false hk
 have q1 : (kk == 1) = false := beq_eq_false_iff_ne.2 (by omega)
 have q2 : (kk == 24) = false := beq_eq_false_iff_ne.2 (by omega)
 have q3 : (kk == 26) = false := beq_eq_false_iff_ne.2 (by omega)
 have hbr : kk < 3 ∨ (3 ≤ kk ∧ 18 < kk) := by omega
 have k0 := hb0.c 0 rfl
 have k1 := hb0.c 1 rfl
 have k7 := hb0.c 7 rfl
 have y0 := hyx.c0
 have c0 := h0x.c 0 rfl
 have c1 := h0x.c 1 rfl
 have c2 := h0x.c 2 rfl
 have c3 := h0x.c 3 rfl
 have c4 := h0x.c 4 rfl
 have c5 := h0x.c 5 rfl
 have c6 := h0x.c 6 rfl
 have c7 := h0x.c 7 rfl
 have c8 := h0x.c 8 rfl
 have c9 := h0x.c 9 rfl
 have e0 := hmx.c 0 rfl
 have e1 := hmx.c 1 rfl
 have e2 := hmx.c 2 rfl
 have e3 := hmx.c 3 rfl
 have e4 := hmx.c 4 rfl
 have e5 := hmx.c 5 rfl
 have e6 := hmx.c 6 rfl
 have e7 := hmx.c 7 rfl
 have e8 := hmx.c 8 rfl
 have e9 := hmx.c 9 rfl
 have f0 := hmx.free 0
 have f1 := hmx.free 1
 have f2 := hmx.free 2
 have f3 := hmx.free 3
 have f4 := hmx.free 4
 have f5 := hmx.free 5
 have f6 := hmx.free 6
 have f7 := hmx.free 7
 have f8 := hmx.free 8
 have f9 := hmx.free 9
 have HX := hid hmx
 have HBx := hid hBx
 have HLx := hid hmx.lt
 have HD := hid h
 have HO := hid hok
 clear hb0 hb1 hb2 hB2 h0x hyx hmx hBx h hok hk hkn hs2
 unfold dsV
 rcases hbr with hbr | ⟨hb1, hb2⟩
 ·have g3 : decide (3 ≤ kk) = false := decide_eq_false (by omega)
  have g3' : ¬ (3 ≤ kk) := by omega
  clear hbr
  go_enter Tryz.func26, Tryz.ntmps26
  go_wp2_with fail
  refine bodyPost_ret (results_bx10' rfl _ _ ((w.heap.size + 1 + 1)) _ _ _ _ _ _ _ _ _ _ _ 32 rfl rfl (ten_box HX.out _ _ _ _ _ _ _ _ _ _) Tryz.underlying32 (szS _)) rfl ?_
  have hfin := dsin_fin2 (Z := (W2.alloc (.cells #[.string (bs d.now.1), .int .i64 d.now.2] 28)).heap.size) (M := (w.heap.size + 1 + 1)) (d := d) HD.out ⟨D, HD.out.below HBx.out, HO.out.more, fun _ h => .inl h⟩ HBx.out (by omega) HLx.out (.string (bs d.now.1)) (.int .i64 d.now.2) (.slice r.A1 d.back.length r.c1) (.slice r.A2 d.forth.length r.c2) (.bool d.opn) (.slice r.A3 d.kills.length r.c3) (.int .i64 d.top) (.int .i64 d.last) (.int .i64 d.fr) (.int .i64 d.to_) (by have := HLx.out; omega)
  first | exact ⟨r, d, false, rfl, hfin⟩ | exact ⟨r, d, .inl rfl, hfin⟩
 ·have g3 : decide (3 ≤ kk) = true := decide_eq_true hb1
  have g4 : decide (kk ≤ 18) = false := decide_eq_false (by omega)
  have g4' : ¬ (kk ≤ 18) := by omega
  go_enter Tryz.func26, Tryz.ntmps26
  go_wp2_with fail
  refine bodyPost_ret (results_bx10' rfl _ _ ((w.heap.size + 1 + 1)) _ _ _ _ _ _ _ _ _ _ _ 32 rfl rfl (ten_box HX.out _ _ _ _ _ _ _ _ _ _) Tryz.underlying32 (szS _)) rfl ?_
  have hfin := dsin_fin2 (Z := (W2.alloc (.cells #[.string (bs d.now.1), .int .i64 d.now.2] 28)).heap.size) (M := (w.heap.size + 1 + 1)) (d := d) HD.out ⟨D, HD.out.below HBx.out, HO.out.more, fun _ h => .inl h⟩ HBx.out (by omega) HLx.out (.string (bs d.now.1)) (.int .i64 d.now.2) (.slice r.A1 d.back.length r.c1) (.slice r.A2 d.forth.length r.c2) (.bool d.opn) (.slice r.A3 d.kills.length r.c3) (.int .i64 d.top) (.int .i64 d.last) (.int .i64 d.fr) (.int .i64 d.to_) (by have := HLx.out; omega)
  first | exact ⟨r, d, false, rfl, hfin⟩ | exact ⟨r, d, .inl rfl, hfin⟩
end
section
open Go Go.RowKit
open Go.Lib (hid)
set_option maxRecDepth 100000
set_option maxHeartbeats 8000000 in
theorem dpress_k5 (w : World) (D : Nat → Prop) (r : DR) (d : DS) (B : Nat) (h : DsAt w D r d) (hok : d.Ok B) (hB8 : B ≤ 1000000) (t : List UInt8) (ht0 : t.length ≤ 100000) :
  Calls Tryz.prog 26 #[dsV r d, .agg #[.int .i64 5, .string (bs t)]] w fun e w' => ∃ r' d' q, e = .returned (.tuple #[dsV r' d', .bool q]) ∧ DsTo w D (B + 600) w' r' d' := by
 obtain ⟨W2, hW2, hB2, hs2, hb0, hb1, hb2⟩ := boxes7k w r d 5 (bs t)
 have h0x := hb0.alloc (.cells #[.string (bs d.now.1), .int .i64 d.now.2] 28)
 have hyx := hb1.alloc (.cells #[.string (bs d.now.1), .int .i64 d.now.2] 28)
 obtain ⟨W4, hW4⟩ : ∃ W4, (W2.alloc (.cells #[.string (bs d.now.1), .int .i64 d.now.2] 28)).setCell ⟨w.heap.size, 7, none⟩ (.int .i64 0) = W4 := ⟨_, rfl⟩
 have h04 : BxA W4 w.heap.size 32 [.string (bs d.now.1), .int .i64 d.now.2, .slice r.A1 d.back.length r.c1, .slice r.A2 d.forth.length r.c2, .bool d.opn, .slice r.A3 d.kills.length r.c3, .int .i64 d.top, .int .i64 0, .int .i64 d.fr, .int .i64 d.to_] := by rw [← hW4]; exact h0x.set 7 _
 have hy4 : Bx W4 (w.heap.size + 1) 34 (.int .i64 5) (.string (bs t)) := by rw [← hW4]; exact hyx.other (by omega) _
 have hm4 : BxA W4 (w.heap.size + 1 + 1) 32 dsZ := by rw [← hW4]; exact (hb2.alloc _).other (by omega) _
 have hk4 : Bx W4 W2.heap.size 28 (.string (bs d.now.1)) (.int .i64 d.now.2) := by rw [← hW4]; exact (Bx.new W2 _ _ _).other (by omega) _
 have hB4 : Below w.heap.size w W4 := by rw [← hW4]; exact (hB2.alloc hB2.size _).setCell (p := ⟨w.heap.size, 7, none⟩) (Nat.le_refl _) _
 have hs4 : w.heap.size + 3 ≤ W4.heap.size := by rw [← hW4]; simp [World.setCell]; omega
 have hszn := bs_size d.now.1
 have hnow := hok.now
 have _ := hB8
 have _ := ht0
 have k0 := hb0.c 0 rfl
 have k1 := hb0.c 1 rfl
 have k7 := hb0.c 7 rfl
 have x7 := h0x.c 7 rfl
 have u7 := h0x.free 7
 have y0 := hyx.c0
 have z0 := hy4.c0
 have z1 := hy4.c1
 have b0 := hk4.c0
 have b1 := hk4.c1
 have c0 := h04.c 0 rfl
 have c1 := h04.c 1 rfl
 have c2 := h04.c 2 rfl
 have c3 := h04.c 3 rfl
 have c4 := h04.c 4 rfl
 have c5 := h04.c 5 rfl
 have c6 := h04.c 6 rfl
 have c7 := h04.c 7 rfl
 have c8 := h04.c 8 rfl
 have c9 := h04.c 9 rfl
 have H04 := hid h04
 have HM4 := hid hm4
 have HK4 := hid hk4
 have HY4 := hid hy4
 have HB4 := hid hB4
 have HL4 := hid hs4
 have HD := hid h
 have HO := hid hok
 have HD4 := hid ((h.below hB4).same (d' := (⟨d.now, d.back, d.forth, d.opn, d.kills, d.top, 0, d.fr, d.to_⟩ : DS)) rfl rfl rfl)
 clear hb0 hb1 hb2 hB2 h0x hyx h04 hm4 hk4 hy4 hB4 hs2 hs4 h hok
 unfold dsV
 go_enter Tryz.func26, Tryz.ntmps26
 go_wp2_with fail
 refine wp_region_last (S := (fun w' => (w'.cell? ⟨w.heap.size, 0, none⟩ = some (.string (bs d.now.1)) ∧ w'.cell? ⟨w.heap.size, 1, none⟩ = some (.int .i64 d.now.2) ∧ w'.cell? ⟨w.heap.size, 2, none⟩ = some (.slice r.A1 d.back.length r.c1) ∧ w'.cell? ⟨w.heap.size, 3, none⟩ = some (.slice r.A2 d.forth.length r.c2) ∧ w'.cell? ⟨w.heap.size, 4, none⟩ = some (.bool d.opn) ∧ w'.cell? ⟨w.heap.size, 5, none⟩ = some (.slice r.A3 d.kills.length r.c3) ∧ w'.cell? ⟨w.heap.size, 6, none⟩ = some (.int .i64 d.top) ∧ w'.cell? ⟨w.heap.size, 7, none⟩ = some (.int .i64 0) ∧ w'.cell? ⟨w.heap.size, 8, none⟩ = some (.int .i64 d.fr) ∧ w'.cell? ⟨w.heap.size, 9, none⟩ = some (.int .i64 d.to_)) ∧ (w'.cell? ⟨W2.heap.size, 0, none⟩ = some (.string (bs d.now.1)) ∧ w'.cell? ⟨W2.heap.size, 1, none⟩ = some (.int .i64 d.now.2)))) 7 (by kernel_rfl) ⟨H04.out.cellsAll, HK4.out.c0, HK4.out.c1⟩ (fun hHeld => ?_)
 refine tkL 0 ?_
 refine tkL 1 ?_
 refine tkL 2 ?_
 refine tkL 3 ?_
 refine tkL 4 ?_
 refine rdL 5 fun K hK => ?_
 go_simp
 refine (rprev_calls d.now.1 (by omega) d.now.2 _).mono ?_
 rintro e w5a ⟨kw, rfl, hkw, hb5⟩
 have hb5' : Below W4.heap.size W4 w5a := ⟨hb5.os, hb5.tape, hb5.output, hb5.size, hb5.block⟩
 have H05 := hid (H04.out.below hb5')
 have HM5 := hid (HM4.out.below hb5')
 have HK5 := hid (HK4.out.below hb5')
 have HB5 := hid (HB4.out.trans (hb5'.mono HB4.out.size))
 have HL5 : Hid (w.heap.size + 3 ≤ w5a.heap.size) := hid (Nat.le_trans HL4.out hb5'.size)
 refine hK.out _ _ ⟨H05.out.cellsAll, HK5.out.c0, HK5.out.c1⟩ (fun hHeld => ?_)
 clear hK K
 clear hb5 hb5'
 clear c0 c1 c2 c3 c4 c5 c6 c7 c8 c9
 refine rdL 6 fun K hK => ?_
 go_simp
 refine (dmove_calls w5a D r (⟨d.now, d.back, d.forth, d.opn, d.kills, d.top, 0, d.fr, d.to_⟩ : DS) B ((HD.out.below HB5.out).same rfl rfl rfl) ⟨HO.out.now, HO.out.back, HO.out.forth, HO.out.len, HO.out.kills, HO.out.small, HO.out.top⟩ (kw : Int)).mono ?_
 rintro e w5 ⟨r1, d1, rfl, ht⟩
 have hbt : Below w5a.heap.size w5a w5 := by obtain ⟨_, _, _, _, hb⟩ := ht; exact hb
 have H0t := hid (H05.out.below hbt)
 have HKt := hid (HK5.out.below hbt)
 refine hK.out _ _ ⟨H0t.out.cellsAll, HKt.out.c0, HKt.out.c1⟩ (fun hHeld => ?_)
 clear hK K
 clear hbt hHeld
 obtain ⟨D1, a1, a2, a3, a4⟩ := ht
 have h05 := H05.out.below a4
 have hm5 := HM5.out.below a4
 have hlc := HL5.out
 have k0 := h05.c 0 rfl
 have k1 := h05.c 1 rfl
 have k2 := h05.c 2 rfl
 have k3 := h05.c 3 rfl
 have k4 := h05.c 4 rfl
 have k5 := h05.c 5 rfl
 have k6 := h05.c 6 rfl
 have k7 := h05.c 7 rfl
 have k8 := h05.c 8 rfl
 have k9 := h05.c 9 rfl
 have u0 := h05.free 0
 have u1 := h05.free 1
 have u2 := h05.free 2
 have u3 := h05.free 3
 have u4 := h05.free 4
 have u5 := h05.free 5
 have u6 := h05.free 6
 have u7 := h05.free 7
 have u8 := h05.free 8
 have u9 := h05.free 9
 obtain ⟨W6, hW6⟩ : ∃ W6, ((((((((((w5.setCell ⟨w.heap.size, 0, none⟩ (.string (bs d1.now.1))).setCell ⟨w.heap.size, 1, none⟩ (.int .i64 d1.now.2)).setCell ⟨w.heap.size, 2, none⟩ (.slice r1.A1 d1.back.length r1.c1)).setCell ⟨w.heap.size, 3, none⟩ (.slice r1.A2 d1.forth.length r1.c2)).setCell ⟨w.heap.size, 4, none⟩ (.bool d1.opn)).setCell ⟨w.heap.size, 5, none⟩ (.slice r1.A3 d1.kills.length r1.c3)).setCell ⟨w.heap.size, 6, none⟩ (.int .i64 d1.top)).setCell ⟨w.heap.size, 7, none⟩ (.int .i64 d1.last)).setCell ⟨w.heap.size, 8, none⟩ (.int .i64 d1.fr)).setCell ⟨w.heap.size, 9, none⟩ (.int .i64 d1.to_)) = W6 := ⟨_, rfl⟩
 have ht6 := ten_boxD h05 r1 d1
 have ho6 := ten_onlyD w5 w.heap.size r1 d1
 have h06 : BxA W6 w.heap.size 32 (dsK r1 d1) := by rw [← hW6]; exact ht6
 have ho7 : Only (fun i => i = w.heap.size) w5 W6 := by rw [← hW6]; exact ho6
 have hm6 : BxA W6 (w.heap.size + 1 + 1) 32 dsZ := hm5.keep ho7 (fun e => by omega)
 have hB5 := HB5.out.trans (a4.mono HB5.out.size)
 have hB6 : Below w.heap.size w W6 := hB5.trans (ho7.below hB5.size (fun i (hi : i = _) => by omega))
 have hin : DsIn D (B + 600) W6 (w.heap.size + 3) r1 d1 := ⟨D1, a1.keep ho7 (fun k hk (e : k = _) => (a3 k hk).elim (fun h1 => by have := HD.out.lt k h1; omega) (fun h1 => by omega)), a2.more, fun k hk => (a3 k hk).imp id (fun h => by omega)⟩
 have HX := hid hm6
 have HF : Hid (DsTo w D (B + 600) (tenD W6 (w.heap.size + 1 + 1) r1 d1) r1 d1) := hid (dsin_fin2 HD.out hin hB6 (by omega) (by omega) (.string (bs d1.now.1)) (.int .i64 d1.now.2) (.slice r1.A1 d1.back.length r1.c1) (.slice r1.A2 d1.forth.length r1.c2) (.bool d1.opn) (.slice r1.A3 d1.kills.length r1.c3) (.int .i64 d1.top) (.int .i64 d1.last) (.int .i64 d1.fr) (.int .i64 d1.to_))
 have H06 := hid h06
 have c0 := h06.c 0 rfl
 have c1 := h06.c 1 rfl
 have c2 := h06.c 2 rfl
 have c3 := h06.c 3 rfl
 have c4 := h06.c 4 rfl
 have c5 := h06.c 5 rfl
 have c6 := h06.c 6 rfl
 have c7 := h06.c 7 rfl
 have c8 := h06.c 8 rfl
 have c9 := h06.c 9 rfl
 have e0 := hm6.c 0 rfl
 have e1 := hm6.c 1 rfl
 have e2 := hm6.c 2 rfl
 have e3 := hm6.c 3 rfl
 have e4 := hm6.c 4 rfl
 have e5 := hm6.c 5 rfl
 have e6 := hm6.c 6 rfl
 have e7 := hm6.c 7 rfl
 have e8 := hm6.c 8 rfl
 have e9 := hm6.c 9 rfl
 have f0 := hm6.free 0
 have f1 := hm6.free 1
 have f2 := hm6.free 2
 have f3 := hm6.free 3
 have f4 := hm6.free 4
 have f5 := hm6.free 5
 have f6 := hm6.free 6
 have f7 := hm6.free 7
 have f8 := hm6.free 8
 have f9 := hm6.free 9
 clear a1 a2 a3 a4 h05 hm5 ht6 ho6 ho7 hB5 hB6 hin h06 hm6 hlc
 (try unfold dsV)
 refine enL fun K hK => ?_
 go_simp
 refine hK.out _ _ ?_
 clear hK K
 go_wp2_with fail
 refine bodyPost_ret (results_bx10' rfl _ _ ((w.heap.size + 1 + 1)) _ _ _ _ _ _ _ _ _ _ _ 32 rfl rfl (ten_box HX.out _ _ _ _ _ _ _ _ _ _) Tryz.underlying32 (szS _)) rfl ?_
 exact ⟨r1, d1, true, rfl, HF.out⟩
set_option maxHeartbeats 8000000 in
theorem dpress_k6 (w : World) (D : Nat → Prop) (r : DR) (d : DS) (B : Nat) (h : DsAt w D r d) (hok : d.Ok B) (hB8 : B ≤ 1000000) (t : List UInt8) (ht0 : t.length ≤ 100000) :
  Calls Tryz.prog 26 #[dsV r d, .agg #[.int .i64 6, .string (bs t)]] w fun e w' => ∃ r' d' q, e = .returned (.tuple #[dsV r' d', .bool q]) ∧ DsTo w D (B + 600) w' r' d' := by
 obtain ⟨W2, hW2, hB2, hs2, hb0, hb1, hb2⟩ := boxes7k w r d 6 (bs t)
 have h0x := hb0.alloc (.cells #[.string (bs d.now.1), .int .i64 d.now.2] 28)
 have hyx := hb1.alloc (.cells #[.string (bs d.now.1), .int .i64 d.now.2] 28)
 obtain ⟨W4, hW4⟩ : ∃ W4, (W2.alloc (.cells #[.string (bs d.now.1), .int .i64 d.now.2] 28)).setCell ⟨w.heap.size, 7, none⟩ (.int .i64 0) = W4 := ⟨_, rfl⟩
 have h04 : BxA W4 w.heap.size 32 [.string (bs d.now.1), .int .i64 d.now.2, .slice r.A1 d.back.length r.c1, .slice r.A2 d.forth.length r.c2, .bool d.opn, .slice r.A3 d.kills.length r.c3, .int .i64 d.top, .int .i64 0, .int .i64 d.fr, .int .i64 d.to_] := by rw [← hW4]; exact h0x.set 7 _
 have hy4 : Bx W4 (w.heap.size + 1) 34 (.int .i64 6) (.string (bs t)) := by rw [← hW4]; exact hyx.other (by omega) _
 have hm4 : BxA W4 (w.heap.size + 1 + 1) 32 dsZ := by rw [← hW4]; exact (hb2.alloc _).other (by omega) _
 have hk4 : Bx W4 W2.heap.size 28 (.string (bs d.now.1)) (.int .i64 d.now.2) := by rw [← hW4]; exact (Bx.new W2 _ _ _).other (by omega) _
 have hB4 : Below w.heap.size w W4 := by rw [← hW4]; exact (hB2.alloc hB2.size _).setCell (p := ⟨w.heap.size, 7, none⟩) (Nat.le_refl _) _
 have hs4 : w.heap.size + 3 ≤ W4.heap.size := by rw [← hW4]; simp [World.setCell]; omega
 have hszn := bs_size d.now.1
 have hnow := hok.now
 have _ := hB8
 have _ := ht0
 have k0 := hb0.c 0 rfl
 have k1 := hb0.c 1 rfl
 have k7 := hb0.c 7 rfl
 have x7 := h0x.c 7 rfl
 have u7 := h0x.free 7
 have y0 := hyx.c0
 have z0 := hy4.c0
 have z1 := hy4.c1
 have b0 := hk4.c0
 have b1 := hk4.c1
 have c0 := h04.c 0 rfl
 have c1 := h04.c 1 rfl
 have c2 := h04.c 2 rfl
 have c3 := h04.c 3 rfl
 have c4 := h04.c 4 rfl
 have c5 := h04.c 5 rfl
 have c6 := h04.c 6 rfl
 have c7 := h04.c 7 rfl
 have c8 := h04.c 8 rfl
 have c9 := h04.c 9 rfl
 have H04 := hid h04
 have HM4 := hid hm4
 have HK4 := hid hk4
 have HY4 := hid hy4
 have HB4 := hid hB4
 have HL4 := hid hs4
 have HD := hid h
 have HO := hid hok
 have HD4 := hid ((h.below hB4).same (d' := (⟨d.now, d.back, d.forth, d.opn, d.kills, d.top, 0, d.fr, d.to_⟩ : DS)) rfl rfl rfl)
 clear hb0 hb1 hb2 hB2 h0x hyx h04 hm4 hk4 hy4 hB4 hs2 hs4 h hok
 unfold dsV
 go_enter Tryz.func26, Tryz.ntmps26
 go_wp2_with fail
 refine wp_region_last (S := (fun w' => (w'.cell? ⟨w.heap.size, 0, none⟩ = some (.string (bs d.now.1)) ∧ w'.cell? ⟨w.heap.size, 1, none⟩ = some (.int .i64 d.now.2) ∧ w'.cell? ⟨w.heap.size, 2, none⟩ = some (.slice r.A1 d.back.length r.c1) ∧ w'.cell? ⟨w.heap.size, 3, none⟩ = some (.slice r.A2 d.forth.length r.c2) ∧ w'.cell? ⟨w.heap.size, 4, none⟩ = some (.bool d.opn) ∧ w'.cell? ⟨w.heap.size, 5, none⟩ = some (.slice r.A3 d.kills.length r.c3) ∧ w'.cell? ⟨w.heap.size, 6, none⟩ = some (.int .i64 d.top) ∧ w'.cell? ⟨w.heap.size, 7, none⟩ = some (.int .i64 0) ∧ w'.cell? ⟨w.heap.size, 8, none⟩ = some (.int .i64 d.fr) ∧ w'.cell? ⟨w.heap.size, 9, none⟩ = some (.int .i64 d.to_)) ∧ (w'.cell? ⟨W2.heap.size, 0, none⟩ = some (.string (bs d.now.1)) ∧ w'.cell? ⟨W2.heap.size, 1, none⟩ = some (.int .i64 d.now.2)))) 7 (by kernel_rfl) ⟨H04.out.cellsAll, HK4.out.c0, HK4.out.c1⟩ (fun hHeld => ?_)
 refine tkL 0 ?_
 refine tkL 1 ?_
 refine tkL 2 ?_
 refine tkL 3 ?_
 refine tkL 4 ?_
 refine rdL 5 fun K hK => ?_
 go_simp
 refine (rnext3_calls d.now.1 (by omega) d.now.2 _).mono ?_
 rintro e w5a ⟨kw, rfl, hkw, hb5⟩
 have hb5' : Below W4.heap.size W4 w5a := ⟨hb5.os, hb5.tape, hb5.output, hb5.size, hb5.block⟩
 have H05 := hid (H04.out.below hb5')
 have HM5 := hid (HM4.out.below hb5')
 have HK5 := hid (HK4.out.below hb5')
 have HB5 := hid (HB4.out.trans (hb5'.mono HB4.out.size))
 have HL5 : Hid (w.heap.size + 3 ≤ w5a.heap.size) := hid (Nat.le_trans HL4.out hb5'.size)
 refine hK.out _ _ ⟨H05.out.cellsAll, HK5.out.c0, HK5.out.c1⟩ (fun hHeld => ?_)
 clear hK K
 clear hb5 hb5'
 clear c0 c1 c2 c3 c4 c5 c6 c7 c8 c9
 refine rdL 6 fun K hK => ?_
 go_simp
 refine (dmove_calls w5a D r (⟨d.now, d.back, d.forth, d.opn, d.kills, d.top, 0, d.fr, d.to_⟩ : DS) B ((HD.out.below HB5.out).same rfl rfl rfl) ⟨HO.out.now, HO.out.back, HO.out.forth, HO.out.len, HO.out.kills, HO.out.small, HO.out.top⟩ (kw : Int)).mono ?_
 rintro e w5 ⟨r1, d1, rfl, ht⟩
 have hbt : Below w5a.heap.size w5a w5 := by obtain ⟨_, _, _, _, hb⟩ := ht; exact hb
 have H0t := hid (H05.out.below hbt)
 have HKt := hid (HK5.out.below hbt)
 refine hK.out _ _ ⟨H0t.out.cellsAll, HKt.out.c0, HKt.out.c1⟩ (fun hHeld => ?_)
 clear hK K
 clear hbt hHeld
 obtain ⟨D1, a1, a2, a3, a4⟩ := ht
 have h05 := H05.out.below a4
 have hm5 := HM5.out.below a4
 have hlc := HL5.out
 have k0 := h05.c 0 rfl
 have k1 := h05.c 1 rfl
 have k2 := h05.c 2 rfl
 have k3 := h05.c 3 rfl
 have k4 := h05.c 4 rfl
 have k5 := h05.c 5 rfl
 have k6 := h05.c 6 rfl
 have k7 := h05.c 7 rfl
 have k8 := h05.c 8 rfl
 have k9 := h05.c 9 rfl
 have u0 := h05.free 0
 have u1 := h05.free 1
 have u2 := h05.free 2
 have u3 := h05.free 3
 have u4 := h05.free 4
 have u5 := h05.free 5
 have u6 := h05.free 6
 have u7 := h05.free 7
 have u8 := h05.free 8
 have u9 := h05.free 9
 obtain ⟨W6, hW6⟩ : ∃ W6, ((((((((((w5.setCell ⟨w.heap.size, 0, none⟩ (.string (bs d1.now.1))).setCell ⟨w.heap.size, 1, none⟩ (.int .i64 d1.now.2)).setCell ⟨w.heap.size, 2, none⟩ (.slice r1.A1 d1.back.length r1.c1)).setCell ⟨w.heap.size, 3, none⟩ (.slice r1.A2 d1.forth.length r1.c2)).setCell ⟨w.heap.size, 4, none⟩ (.bool d1.opn)).setCell ⟨w.heap.size, 5, none⟩ (.slice r1.A3 d1.kills.length r1.c3)).setCell ⟨w.heap.size, 6, none⟩ (.int .i64 d1.top)).setCell ⟨w.heap.size, 7, none⟩ (.int .i64 d1.last)).setCell ⟨w.heap.size, 8, none⟩ (.int .i64 d1.fr)).setCell ⟨w.heap.size, 9, none⟩ (.int .i64 d1.to_)) = W6 := ⟨_, rfl⟩
 have ht6 := ten_boxD h05 r1 d1
 have ho6 := ten_onlyD w5 w.heap.size r1 d1
 have h06 : BxA W6 w.heap.size 32 (dsK r1 d1) := by rw [← hW6]; exact ht6
 have ho7 : Only (fun i => i = w.heap.size) w5 W6 := by rw [← hW6]; exact ho6
 have hm6 : BxA W6 (w.heap.size + 1 + 1) 32 dsZ := hm5.keep ho7 (fun e => by omega)
 have hB5 := HB5.out.trans (a4.mono HB5.out.size)
 have hB6 : Below w.heap.size w W6 := hB5.trans (ho7.below hB5.size (fun i (hi : i = _) => by omega))
 have hin : DsIn D (B + 600) W6 (w.heap.size + 3) r1 d1 := ⟨D1, a1.keep ho7 (fun k hk (e : k = _) => (a3 k hk).elim (fun h1 => by have := HD.out.lt k h1; omega) (fun h1 => by omega)), a2.more, fun k hk => (a3 k hk).imp id (fun h => by omega)⟩
 have HX := hid hm6
 have HF : Hid (DsTo w D (B + 600) (tenD W6 (w.heap.size + 1 + 1) r1 d1) r1 d1) := hid (dsin_fin2 HD.out hin hB6 (by omega) (by omega) (.string (bs d1.now.1)) (.int .i64 d1.now.2) (.slice r1.A1 d1.back.length r1.c1) (.slice r1.A2 d1.forth.length r1.c2) (.bool d1.opn) (.slice r1.A3 d1.kills.length r1.c3) (.int .i64 d1.top) (.int .i64 d1.last) (.int .i64 d1.fr) (.int .i64 d1.to_))
 have H06 := hid h06
 have c0 := h06.c 0 rfl
 have c1 := h06.c 1 rfl
 have c2 := h06.c 2 rfl
 have c3 := h06.c 3 rfl
 have c4 := h06.c 4 rfl
 have c5 := h06.c 5 rfl
 have c6 := h06.c 6 rfl
 have c7 := h06.c 7 rfl
 have c8 := h06.c 8 rfl
 have c9 := h06.c 9 rfl
 have e0 := hm6.c 0 rfl
 have e1 := hm6.c 1 rfl
 have e2 := hm6.c 2 rfl
 have e3 := hm6.c 3 rfl
 have e4 := hm6.c 4 rfl
 have e5 := hm6.c 5 rfl
 have e6 := hm6.c 6 rfl
 have e7 := hm6.c 7 rfl
 have e8 := hm6.c 8 rfl
 have e9 := hm6.c 9 rfl
 have f0 := hm6.free 0
 have f1 := hm6.free 1
 have f2 := hm6.free 2
 have f3 := hm6.free 3
 have f4 := hm6.free 4
 have f5 := hm6.free 5
 have f6 := hm6.free 6
 have f7 := hm6.free 7
 have f8 := hm6.free 8
 have f9 := hm6.free 9
 clear a1 a2 a3 a4 h05 hm5 ht6 ho6 ho7 hB5 hB6 hin h06 hm6 hlc
 (try unfold dsV)
 refine enL fun K hK => ?_
 go_simp
 refine hK.out _ _ ?_
 clear hK K
 go_wp2_with fail
 refine bodyPost_ret (results_bx10' rfl _ _ ((w.heap.size + 1 + 1)) _ _ _ _ _ _ _ _ _ _ _ 32 rfl rfl (ten_box HX.out _ _ _ _ _ _ _ _ _ _) Tryz.underlying32 (szS _)) rfl ?_
 exact ⟨r1, d1, true, rfl, HF.out⟩
set_option maxHeartbeats 8000000 in
theorem dpress_k9 (w : World) (D : Nat → Prop) (r : DR) (d : DS) (B : Nat) (h : DsAt w D r d) (hok : d.Ok B) (hB8 : B ≤ 1000000) (t : List UInt8) (ht0 : t.length ≤ 100000) :
  Calls Tryz.prog 26 #[dsV r d, .agg #[.int .i64 9, .string (bs t)]] w fun e w' => ∃ r' d' q, e = .returned (.tuple #[dsV r' d', .bool q]) ∧ DsTo w D (B + 600) w' r' d' := by
 obtain ⟨W2, hW2, hB2, hs2, hb0, hb1, hb2⟩ := boxes7k w r d 9 (bs t)
 have h0x := hb0.alloc (.cells #[.string (bs d.now.1), .int .i64 d.now.2] 28)
 have hyx := hb1.alloc (.cells #[.string (bs d.now.1), .int .i64 d.now.2] 28)
 obtain ⟨W4, hW4⟩ : ∃ W4, (W2.alloc (.cells #[.string (bs d.now.1), .int .i64 d.now.2] 28)).setCell ⟨w.heap.size, 7, none⟩ (.int .i64 0) = W4 := ⟨_, rfl⟩
 have h04 : BxA W4 w.heap.size 32 [.string (bs d.now.1), .int .i64 d.now.2, .slice r.A1 d.back.length r.c1, .slice r.A2 d.forth.length r.c2, .bool d.opn, .slice r.A3 d.kills.length r.c3, .int .i64 d.top, .int .i64 0, .int .i64 d.fr, .int .i64 d.to_] := by rw [← hW4]; exact h0x.set 7 _
 have hy4 : Bx W4 (w.heap.size + 1) 34 (.int .i64 9) (.string (bs t)) := by rw [← hW4]; exact hyx.other (by omega) _
 have hm4 : BxA W4 (w.heap.size + 1 + 1) 32 dsZ := by rw [← hW4]; exact (hb2.alloc _).other (by omega) _
 have hk4 : Bx W4 W2.heap.size 28 (.string (bs d.now.1)) (.int .i64 d.now.2) := by rw [← hW4]; exact (Bx.new W2 _ _ _).other (by omega) _
 have hB4 : Below w.heap.size w W4 := by rw [← hW4]; exact (hB2.alloc hB2.size _).setCell (p := ⟨w.heap.size, 7, none⟩) (Nat.le_refl _) _
 have hs4 : w.heap.size + 3 ≤ W4.heap.size := by rw [← hW4]; simp [World.setCell]; omega
 have hszn := bs_size d.now.1
 have hnow := hok.now
 have _ := hB8
 have _ := ht0
 have k0 := hb0.c 0 rfl
 have k1 := hb0.c 1 rfl
 have k7 := hb0.c 7 rfl
 have x7 := h0x.c 7 rfl
 have u7 := h0x.free 7
 have y0 := hyx.c0
 have z0 := hy4.c0
 have z1 := hy4.c1
 have b0 := hk4.c0
 have b1 := hk4.c1
 have c0 := h04.c 0 rfl
 have c1 := h04.c 1 rfl
 have c2 := h04.c 2 rfl
 have c3 := h04.c 3 rfl
 have c4 := h04.c 4 rfl
 have c5 := h04.c 5 rfl
 have c6 := h04.c 6 rfl
 have c7 := h04.c 7 rfl
 have c8 := h04.c 8 rfl
 have c9 := h04.c 9 rfl
 have H04 := hid h04
 have HM4 := hid hm4
 have HK4 := hid hk4
 have HY4 := hid hy4
 have HB4 := hid hB4
 have HL4 := hid hs4
 have HD := hid h
 have HO := hid hok
 have HD4 := hid ((h.below hB4).same (d' := (⟨d.now, d.back, d.forth, d.opn, d.kills, d.top, 0, d.fr, d.to_⟩ : DS)) rfl rfl rfl)
 clear hb0 hb1 hb2 hB2 h0x hyx h04 hm4 hk4 hy4 hB4 hs2 hs4 h hok
 unfold dsV
 go_enter Tryz.func26, Tryz.ntmps26
 go_wp2_with fail
 refine wp_region_last (S := (fun w' => (w'.cell? ⟨w.heap.size, 0, none⟩ = some (.string (bs d.now.1)) ∧ w'.cell? ⟨w.heap.size, 1, none⟩ = some (.int .i64 d.now.2) ∧ w'.cell? ⟨w.heap.size, 2, none⟩ = some (.slice r.A1 d.back.length r.c1) ∧ w'.cell? ⟨w.heap.size, 3, none⟩ = some (.slice r.A2 d.forth.length r.c2) ∧ w'.cell? ⟨w.heap.size, 4, none⟩ = some (.bool d.opn) ∧ w'.cell? ⟨w.heap.size, 5, none⟩ = some (.slice r.A3 d.kills.length r.c3) ∧ w'.cell? ⟨w.heap.size, 6, none⟩ = some (.int .i64 d.top) ∧ w'.cell? ⟨w.heap.size, 7, none⟩ = some (.int .i64 0) ∧ w'.cell? ⟨w.heap.size, 8, none⟩ = some (.int .i64 d.fr) ∧ w'.cell? ⟨w.heap.size, 9, none⟩ = some (.int .i64 d.to_)) ∧ (w'.cell? ⟨W2.heap.size, 0, none⟩ = some (.string (bs d.now.1)) ∧ w'.cell? ⟨W2.heap.size, 1, none⟩ = some (.int .i64 d.now.2)))) 7 (by kernel_rfl) ⟨H04.out.cellsAll, HK4.out.c0, HK4.out.c1⟩ (fun hHeld => ?_)
 refine tkL 0 ?_
 refine tkL 1 ?_
 refine tkL 2 ?_
 refine tkL 3 ?_
 refine tkL 4 ?_
 refine rdL 5 fun K hK => ?_
 go_simp
 refine (rWord_calls d.now.1 (by omega) d.now.2 (-1) (.inl rfl) _).mono ?_
 rintro e w5a ⟨kw, rfl, hkw, hb5⟩
 have hb5' : Below W4.heap.size W4 w5a := ⟨hb5.os, hb5.tape, hb5.output, hb5.size, hb5.block⟩
 have H05 := hid (H04.out.below hb5')
 have HM5 := hid (HM4.out.below hb5')
 have HK5 := hid (HK4.out.below hb5')
 have HB5 := hid (HB4.out.trans (hb5'.mono HB4.out.size))
 have HL5 : Hid (w.heap.size + 3 ≤ w5a.heap.size) := hid (Nat.le_trans HL4.out hb5'.size)
 refine hK.out _ _ ⟨H05.out.cellsAll, HK5.out.c0, HK5.out.c1⟩ (fun hHeld => ?_)
 clear hK K
 clear hb5 hb5'
 clear c0 c1 c2 c3 c4 c5 c6 c7 c8 c9
 refine rdL 6 fun K hK => ?_
 go_simp
 refine (dmove_calls w5a D r (⟨d.now, d.back, d.forth, d.opn, d.kills, d.top, 0, d.fr, d.to_⟩ : DS) B ((HD.out.below HB5.out).same rfl rfl rfl) ⟨HO.out.now, HO.out.back, HO.out.forth, HO.out.len, HO.out.kills, HO.out.small, HO.out.top⟩ (kw : Int)).mono ?_
 rintro e w5 ⟨r1, d1, rfl, ht⟩
 have hbt : Below w5a.heap.size w5a w5 := by obtain ⟨_, _, _, _, hb⟩ := ht; exact hb
 have H0t := hid (H05.out.below hbt)
 have HKt := hid (HK5.out.below hbt)
 refine hK.out _ _ ⟨H0t.out.cellsAll, HKt.out.c0, HKt.out.c1⟩ (fun hHeld => ?_)
 clear hK K
 clear hbt hHeld
 obtain ⟨D1, a1, a2, a3, a4⟩ := ht
 have h05 := H05.out.below a4
 have hm5 := HM5.out.below a4
 have hlc := HL5.out
 have k0 := h05.c 0 rfl
 have k1 := h05.c 1 rfl
 have k2 := h05.c 2 rfl
 have k3 := h05.c 3 rfl
 have k4 := h05.c 4 rfl
 have k5 := h05.c 5 rfl
 have k6 := h05.c 6 rfl
 have k7 := h05.c 7 rfl
 have k8 := h05.c 8 rfl
 have k9 := h05.c 9 rfl
 have u0 := h05.free 0
 have u1 := h05.free 1
 have u2 := h05.free 2
 have u3 := h05.free 3
 have u4 := h05.free 4
 have u5 := h05.free 5
 have u6 := h05.free 6
 have u7 := h05.free 7
 have u8 := h05.free 8
 have u9 := h05.free 9
 obtain ⟨W6, hW6⟩ : ∃ W6, ((((((((((w5.setCell ⟨w.heap.size, 0, none⟩ (.string (bs d1.now.1))).setCell ⟨w.heap.size, 1, none⟩ (.int .i64 d1.now.2)).setCell ⟨w.heap.size, 2, none⟩ (.slice r1.A1 d1.back.length r1.c1)).setCell ⟨w.heap.size, 3, none⟩ (.slice r1.A2 d1.forth.length r1.c2)).setCell ⟨w.heap.size, 4, none⟩ (.bool d1.opn)).setCell ⟨w.heap.size, 5, none⟩ (.slice r1.A3 d1.kills.length r1.c3)).setCell ⟨w.heap.size, 6, none⟩ (.int .i64 d1.top)).setCell ⟨w.heap.size, 7, none⟩ (.int .i64 d1.last)).setCell ⟨w.heap.size, 8, none⟩ (.int .i64 d1.fr)).setCell ⟨w.heap.size, 9, none⟩ (.int .i64 d1.to_)) = W6 := ⟨_, rfl⟩
 have ht6 := ten_boxD h05 r1 d1
 have ho6 := ten_onlyD w5 w.heap.size r1 d1
 have h06 : BxA W6 w.heap.size 32 (dsK r1 d1) := by rw [← hW6]; exact ht6
 have ho7 : Only (fun i => i = w.heap.size) w5 W6 := by rw [← hW6]; exact ho6
 have hm6 : BxA W6 (w.heap.size + 1 + 1) 32 dsZ := hm5.keep ho7 (fun e => by omega)
 have hB5 := HB5.out.trans (a4.mono HB5.out.size)
 have hB6 : Below w.heap.size w W6 := hB5.trans (ho7.below hB5.size (fun i (hi : i = _) => by omega))
 have hin : DsIn D (B + 600) W6 (w.heap.size + 3) r1 d1 := ⟨D1, a1.keep ho7 (fun k hk (e : k = _) => (a3 k hk).elim (fun h1 => by have := HD.out.lt k h1; omega) (fun h1 => by omega)), a2.more, fun k hk => (a3 k hk).imp id (fun h => by omega)⟩
 have HX := hid hm6
 have HF : Hid (DsTo w D (B + 600) (tenD W6 (w.heap.size + 1 + 1) r1 d1) r1 d1) := hid (dsin_fin2 HD.out hin hB6 (by omega) (by omega) (.string (bs d1.now.1)) (.int .i64 d1.now.2) (.slice r1.A1 d1.back.length r1.c1) (.slice r1.A2 d1.forth.length r1.c2) (.bool d1.opn) (.slice r1.A3 d1.kills.length r1.c3) (.int .i64 d1.top) (.int .i64 d1.last) (.int .i64 d1.fr) (.int .i64 d1.to_))
 have H06 := hid h06
 have c0 := h06.c 0 rfl
 have c1 := h06.c 1 rfl
 have c2 := h06.c 2 rfl
 have c3 := h06.c 3 rfl
 have c4 := h06.c 4 rfl
 have c5 := h06.c 5 rfl
 have c6 := h06.c 6 rfl
 have c7 := h06.c 7 rfl
 have c8 := h06.c 8 rfl
 have c9 := h06.c 9 rfl
 have e0 := hm6.c 0 rfl
 have e1 := hm6.c 1 rfl
 have e2 := hm6.c 2 rfl
 have e3 := hm6.c 3 rfl
 have e4 := hm6.c 4 rfl
 have e5 := hm6.c 5 rfl
 have e6 := hm6.c 6 rfl
 have e7 := hm6.c 7 rfl
 have e8 := hm6.c 8 rfl
 have e9 := hm6.c 9 rfl
 have f0 := hm6.free 0
 have f1 := hm6.free 1
 have f2 := hm6.free 2
 have f3 := hm6.free 3
 have f4 := hm6.free 4
 have f5 := hm6.free 5
 have f6 := hm6.free 6
 have f7 := hm6.free 7
 have f8 := hm6.free 8
 have f9 := hm6.free 9
 clear a1 a2 a3 a4 h05 hm5 ht6 ho6 ho7 hB5 hB6 hin h06 hm6 hlc
 (try unfold dsV)
 refine enL fun K hK => ?_
 go_simp
 refine hK.out _ _ ?_
 clear hK K
 go_wp2_with fail
 refine bodyPost_ret (results_bx10' rfl _ _ ((w.heap.size + 1 + 1)) _ _ _ _ _ _ _ _ _ _ _ 32 rfl rfl (ten_box HX.out _ _ _ _ _ _ _ _ _ _) Tryz.underlying32 (szS _)) rfl ?_
 exact ⟨r1, d1, true, rfl, HF.out⟩
set_option maxHeartbeats 8000000 in
theorem dpress_k10 (w : World) (D : Nat → Prop) (r : DR) (d : DS) (B : Nat) (h : DsAt w D r d) (hok : d.Ok B) (hB8 : B ≤ 1000000) (t : List UInt8) (ht0 : t.length ≤ 100000) :
  Calls Tryz.prog 26 #[dsV r d, .agg #[.int .i64 10, .string (bs t)]] w fun e w' => ∃ r' d' q, e = .returned (.tuple #[dsV r' d', .bool q]) ∧ DsTo w D (B + 600) w' r' d' := by
 obtain ⟨W2, hW2, hB2, hs2, hb0, hb1, hb2⟩ := boxes7k w r d 10 (bs t)
 have h0x := hb0.alloc (.cells #[.string (bs d.now.1), .int .i64 d.now.2] 28)
 have hyx := hb1.alloc (.cells #[.string (bs d.now.1), .int .i64 d.now.2] 28)
 obtain ⟨W4, hW4⟩ : ∃ W4, (W2.alloc (.cells #[.string (bs d.now.1), .int .i64 d.now.2] 28)).setCell ⟨w.heap.size, 7, none⟩ (.int .i64 0) = W4 := ⟨_, rfl⟩
 have h04 : BxA W4 w.heap.size 32 [.string (bs d.now.1), .int .i64 d.now.2, .slice r.A1 d.back.length r.c1, .slice r.A2 d.forth.length r.c2, .bool d.opn, .slice r.A3 d.kills.length r.c3, .int .i64 d.top, .int .i64 0, .int .i64 d.fr, .int .i64 d.to_] := by rw [← hW4]; exact h0x.set 7 _
 have hy4 : Bx W4 (w.heap.size + 1) 34 (.int .i64 10) (.string (bs t)) := by rw [← hW4]; exact hyx.other (by omega) _
 have hm4 : BxA W4 (w.heap.size + 1 + 1) 32 dsZ := by rw [← hW4]; exact (hb2.alloc _).other (by omega) _
 have hk4 : Bx W4 W2.heap.size 28 (.string (bs d.now.1)) (.int .i64 d.now.2) := by rw [← hW4]; exact (Bx.new W2 _ _ _).other (by omega) _
 have hB4 : Below w.heap.size w W4 := by rw [← hW4]; exact (hB2.alloc hB2.size _).setCell (p := ⟨w.heap.size, 7, none⟩) (Nat.le_refl _) _
 have hs4 : w.heap.size + 3 ≤ W4.heap.size := by rw [← hW4]; simp [World.setCell]; omega
 have hszn := bs_size d.now.1
 have hnow := hok.now
 have _ := hB8
 have _ := ht0
 have k0 := hb0.c 0 rfl
 have k1 := hb0.c 1 rfl
 have k7 := hb0.c 7 rfl
 have x7 := h0x.c 7 rfl
 have u7 := h0x.free 7
 have y0 := hyx.c0
 have z0 := hy4.c0
 have z1 := hy4.c1
 have b0 := hk4.c0
 have b1 := hk4.c1
 have c0 := h04.c 0 rfl
 have c1 := h04.c 1 rfl
 have c2 := h04.c 2 rfl
 have c3 := h04.c 3 rfl
 have c4 := h04.c 4 rfl
 have c5 := h04.c 5 rfl
 have c6 := h04.c 6 rfl
 have c7 := h04.c 7 rfl
 have c8 := h04.c 8 rfl
 have c9 := h04.c 9 rfl
 have H04 := hid h04
 have HM4 := hid hm4
 have HK4 := hid hk4
 have HY4 := hid hy4
 have HB4 := hid hB4
 have HL4 := hid hs4
 have HD := hid h
 have HO := hid hok
 have HD4 := hid ((h.below hB4).same (d' := (⟨d.now, d.back, d.forth, d.opn, d.kills, d.top, 0, d.fr, d.to_⟩ : DS)) rfl rfl rfl)
 clear hb0 hb1 hb2 hB2 h0x hyx h04 hm4 hk4 hy4 hB4 hs2 hs4 h hok
 unfold dsV
 go_enter Tryz.func26, Tryz.ntmps26
 go_wp2_with fail
 refine wp_region_last (S := (fun w' => (w'.cell? ⟨w.heap.size, 0, none⟩ = some (.string (bs d.now.1)) ∧ w'.cell? ⟨w.heap.size, 1, none⟩ = some (.int .i64 d.now.2) ∧ w'.cell? ⟨w.heap.size, 2, none⟩ = some (.slice r.A1 d.back.length r.c1) ∧ w'.cell? ⟨w.heap.size, 3, none⟩ = some (.slice r.A2 d.forth.length r.c2) ∧ w'.cell? ⟨w.heap.size, 4, none⟩ = some (.bool d.opn) ∧ w'.cell? ⟨w.heap.size, 5, none⟩ = some (.slice r.A3 d.kills.length r.c3) ∧ w'.cell? ⟨w.heap.size, 6, none⟩ = some (.int .i64 d.top) ∧ w'.cell? ⟨w.heap.size, 7, none⟩ = some (.int .i64 0) ∧ w'.cell? ⟨w.heap.size, 8, none⟩ = some (.int .i64 d.fr) ∧ w'.cell? ⟨w.heap.size, 9, none⟩ = some (.int .i64 d.to_)) ∧ (w'.cell? ⟨W2.heap.size, 0, none⟩ = some (.string (bs d.now.1)) ∧ w'.cell? ⟨W2.heap.size, 1, none⟩ = some (.int .i64 d.now.2)))) 7 (by kernel_rfl) ⟨H04.out.cellsAll, HK4.out.c0, HK4.out.c1⟩ (fun hHeld => ?_)
 refine tkL 0 ?_
 refine tkL 1 ?_
 refine tkL 2 ?_
 refine tkL 3 ?_
 refine tkL 4 ?_
 refine rdL 5 fun K hK => ?_
 go_simp
 refine (rWord_calls d.now.1 (by omega) d.now.2 1 (.inr rfl) _).mono ?_
 rintro e w5a ⟨kw, rfl, hkw, hb5⟩
 have hb5' : Below W4.heap.size W4 w5a := ⟨hb5.os, hb5.tape, hb5.output, hb5.size, hb5.block⟩
 have H05 := hid (H04.out.below hb5')
 have HM5 := hid (HM4.out.below hb5')
 have HK5 := hid (HK4.out.below hb5')
 have HB5 := hid (HB4.out.trans (hb5'.mono HB4.out.size))
 have HL5 : Hid (w.heap.size + 3 ≤ w5a.heap.size) := hid (Nat.le_trans HL4.out hb5'.size)
 refine hK.out _ _ ⟨H05.out.cellsAll, HK5.out.c0, HK5.out.c1⟩ (fun hHeld => ?_)
 clear hK K
 clear hb5 hb5'
 clear c0 c1 c2 c3 c4 c5 c6 c7 c8 c9
 refine rdL 6 fun K hK => ?_
 go_simp
 refine (dmove_calls w5a D r (⟨d.now, d.back, d.forth, d.opn, d.kills, d.top, 0, d.fr, d.to_⟩ : DS) B ((HD.out.below HB5.out).same rfl rfl rfl) ⟨HO.out.now, HO.out.back, HO.out.forth, HO.out.len, HO.out.kills, HO.out.small, HO.out.top⟩ (kw : Int)).mono ?_
 rintro e w5 ⟨r1, d1, rfl, ht⟩
 have hbt : Below w5a.heap.size w5a w5 := by obtain ⟨_, _, _, _, hb⟩ := ht; exact hb
 have H0t := hid (H05.out.below hbt)
 have HKt := hid (HK5.out.below hbt)
 refine hK.out _ _ ⟨H0t.out.cellsAll, HKt.out.c0, HKt.out.c1⟩ (fun hHeld => ?_)
 clear hK K
 clear hbt hHeld
 obtain ⟨D1, a1, a2, a3, a4⟩ := ht
 have h05 := H05.out.below a4
 have hm5 := HM5.out.below a4
 have hlc := HL5.out
 have k0 := h05.c 0 rfl
 have k1 := h05.c 1 rfl
 have k2 := h05.c 2 rfl
 have k3 := h05.c 3 rfl
 have k4 := h05.c 4 rfl
 have k5 := h05.c 5 rfl
 have k6 := h05.c 6 rfl
 have k7 := h05.c 7 rfl
 have k8 := h05.c 8 rfl
 have k9 := h05.c 9 rfl
 have u0 := h05.free 0
 have u1 := h05.free 1
 have u2 := h05.free 2
 have u3 := h05.free 3
 have u4 := h05.free 4
 have u5 := h05.free 5
 have u6 := h05.free 6
 have u7 := h05.free 7
 have u8 := h05.free 8
 have u9 := h05.free 9
 obtain ⟨W6, hW6⟩ : ∃ W6, ((((((((((w5.setCell ⟨w.heap.size, 0, none⟩ (.string (bs d1.now.1))).setCell ⟨w.heap.size, 1, none⟩ (.int .i64 d1.now.2)).setCell ⟨w.heap.size, 2, none⟩ (.slice r1.A1 d1.back.length r1.c1)).setCell ⟨w.heap.size, 3, none⟩ (.slice r1.A2 d1.forth.length r1.c2)).setCell ⟨w.heap.size, 4, none⟩ (.bool d1.opn)).setCell ⟨w.heap.size, 5, none⟩ (.slice r1.A3 d1.kills.length r1.c3)).setCell ⟨w.heap.size, 6, none⟩ (.int .i64 d1.top)).setCell ⟨w.heap.size, 7, none⟩ (.int .i64 d1.last)).setCell ⟨w.heap.size, 8, none⟩ (.int .i64 d1.fr)).setCell ⟨w.heap.size, 9, none⟩ (.int .i64 d1.to_)) = W6 := ⟨_, rfl⟩
 have ht6 := ten_boxD h05 r1 d1
 have ho6 := ten_onlyD w5 w.heap.size r1 d1
 have h06 : BxA W6 w.heap.size 32 (dsK r1 d1) := by rw [← hW6]; exact ht6
 have ho7 : Only (fun i => i = w.heap.size) w5 W6 := by rw [← hW6]; exact ho6
 have hm6 : BxA W6 (w.heap.size + 1 + 1) 32 dsZ := hm5.keep ho7 (fun e => by omega)
 have hB5 := HB5.out.trans (a4.mono HB5.out.size)
 have hB6 : Below w.heap.size w W6 := hB5.trans (ho7.below hB5.size (fun i (hi : i = _) => by omega))
 have hin : DsIn D (B + 600) W6 (w.heap.size + 3) r1 d1 := ⟨D1, a1.keep ho7 (fun k hk (e : k = _) => (a3 k hk).elim (fun h1 => by have := HD.out.lt k h1; omega) (fun h1 => by omega)), a2.more, fun k hk => (a3 k hk).imp id (fun h => by omega)⟩
 have HX := hid hm6
 have HF : Hid (DsTo w D (B + 600) (tenD W6 (w.heap.size + 1 + 1) r1 d1) r1 d1) := hid (dsin_fin2 HD.out hin hB6 (by omega) (by omega) (.string (bs d1.now.1)) (.int .i64 d1.now.2) (.slice r1.A1 d1.back.length r1.c1) (.slice r1.A2 d1.forth.length r1.c2) (.bool d1.opn) (.slice r1.A3 d1.kills.length r1.c3) (.int .i64 d1.top) (.int .i64 d1.last) (.int .i64 d1.fr) (.int .i64 d1.to_))
 have H06 := hid h06
 have c0 := h06.c 0 rfl
 have c1 := h06.c 1 rfl
 have c2 := h06.c 2 rfl
 have c3 := h06.c 3 rfl
 have c4 := h06.c 4 rfl
 have c5 := h06.c 5 rfl
 have c6 := h06.c 6 rfl
 have c7 := h06.c 7 rfl
 have c8 := h06.c 8 rfl
 have c9 := h06.c 9 rfl
 have e0 := hm6.c 0 rfl
 have e1 := hm6.c 1 rfl
 have e2 := hm6.c 2 rfl
 have e3 := hm6.c 3 rfl
 have e4 := hm6.c 4 rfl
 have e5 := hm6.c 5 rfl
 have e6 := hm6.c 6 rfl
 have e7 := hm6.c 7 rfl
 have e8 := hm6.c 8 rfl
 have e9 := hm6.c 9 rfl
 have f0 := hm6.free 0
 have f1 := hm6.free 1
 have f2 := hm6.free 2
 have f3 := hm6.free 3
 have f4 := hm6.free 4
 have f5 := hm6.free 5
 have f6 := hm6.free 6
 have f7 := hm6.free 7
 have f8 := hm6.free 8
 have f9 := hm6.free 9
 clear a1 a2 a3 a4 h05 hm5 ht6 ho6 ho7 hB5 hB6 hin h06 hm6 hlc
 (try unfold dsV)
 refine enL fun K hK => ?_
 go_simp
 refine hK.out _ _ ?_
 clear hK K
 go_wp2_with fail
 refine bodyPost_ret (results_bx10' rfl _ _ ((w.heap.size + 1 + 1)) _ _ _ _ _ _ _ _ _ _ _ 32 rfl rfl (ten_box HX.out _ _ _ _ _ _ _ _ _ _) Tryz.underlying32 (szS _)) rfl ?_
 exact ⟨r1, d1, true, rfl, HF.out⟩
end
section
open Go Go.RowKit
open Go.Lib (hid)
set_option maxRecDepth 100000
set_option maxHeartbeats 8000000 in
theorem dpress_k3 (w : World) (D : Nat → Prop) (r : DR) (d : DS) (B : Nat) (h : DsAt w D r d) (hok : d.Ok B) (hB8 : B ≤ 1000000) (t : List UInt8) (ht0 : t.length ≤ 100000) :
  Calls Tryz.prog 26 #[dsV r d, .agg #[.int .i64 3, .string (bs t)]] w fun e w' => ∃ r' d' q, e = .returned (.tuple #[dsV r' d', .bool q]) ∧ DsTo w D (B + 600) w' r' d' := by
 obtain ⟨W2, hW2, hB2, hs2, hb0, hb1, hb2⟩ := boxes7k w r d 3 (bs t)
 have h0x := hb0.alloc (.cells #[.string (bs d.now.1), .int .i64 d.now.2] 28)
 have hyx := hb1.alloc (.cells #[.string (bs d.now.1), .int .i64 d.now.2] 28)
 obtain ⟨W4, hW4⟩ : ∃ W4, (W2.alloc (.cells #[.string (bs d.now.1), .int .i64 d.now.2] 28)).setCell ⟨w.heap.size, 7, none⟩ (.int .i64 0) = W4 := ⟨_, rfl⟩
 have h04 : BxA W4 w.heap.size 32 [.string (bs d.now.1), .int .i64 d.now.2, .slice r.A1 d.back.length r.c1, .slice r.A2 d.forth.length r.c2, .bool d.opn, .slice r.A3 d.kills.length r.c3, .int .i64 d.top, .int .i64 0, .int .i64 d.fr, .int .i64 d.to_] := by rw [← hW4]; exact h0x.set 7 _
 have hy4 : Bx W4 (w.heap.size + 1) 34 (.int .i64 3) (.string (bs t)) := by rw [← hW4]; exact hyx.other (by omega) _
 have hm4 : BxA W4 (w.heap.size + 1 + 1) 32 dsZ := by rw [← hW4]; exact (hb2.alloc _).other (by omega) _
 have hk4 : Bx W4 W2.heap.size 28 (.string (bs d.now.1)) (.int .i64 d.now.2) := by rw [← hW4]; exact (Bx.new W2 _ _ _).other (by omega) _
 have hB4 : Below w.heap.size w W4 := by rw [← hW4]; exact (hB2.alloc hB2.size _).setCell (p := ⟨w.heap.size, 7, none⟩) (Nat.le_refl _) _
 have hs4 : w.heap.size + 3 ≤ W4.heap.size := by rw [← hW4]; simp [World.setCell]; omega
 have hszn := bs_size d.now.1
 have hnow := hok.now
 have _ := hB8
 have _ := ht0
 have k0 := hb0.c 0 rfl
 have k1 := hb0.c 1 rfl
 have k7 := hb0.c 7 rfl
 have x7 := h0x.c 7 rfl
 have u7 := h0x.free 7
 have y0 := hyx.c0
 have z0 := hy4.c0
 have z1 := hy4.c1
 have b0 := hk4.c0
 have b1 := hk4.c1
 have c0 := h04.c 0 rfl
 have c1 := h04.c 1 rfl
 have c2 := h04.c 2 rfl
 have c3 := h04.c 3 rfl
 have c4 := h04.c 4 rfl
 have c5 := h04.c 5 rfl
 have c6 := h04.c 6 rfl
 have c7 := h04.c 7 rfl
 have c8 := h04.c 8 rfl
 have c9 := h04.c 9 rfl
 have H04 := hid h04
 have HM4 := hid hm4
 have HK4 := hid hk4
 have HY4 := hid hy4
 have HB4 := hid hB4
 have HL4 := hid hs4
 have HW2 : Hid (w.heap.size < W2.heap.size) := hid (by omega)
 have HD := hid h
 have HO := hid hok
 have HD4 := hid ((h.below hB4).same (d' := (⟨d.now, d.back, d.forth, d.opn, d.kills, d.top, 0, d.fr, d.to_⟩ : DS)) rfl rfl rfl)
 clear hb0 hb1 hb2 hB2 h0x hyx h04 hm4 hk4 hy4 hB4 hs2 hs4 h hok
 unfold dsV
 go_enter Tryz.func26, Tryz.ntmps26
 go_wp2_with fail
 refine wp_region_held_drew (S := (fun w' => w'.cell? ⟨W2.heap.size, 0, none⟩ = some (.string (bs d.now.1)) ∧ w'.cell? ⟨W2.heap.size, 1, none⟩ = some (.int .i64 d.now.2))) (by kernel_rfl) ⟨b0, b1⟩ (fun hHeld => ?_)
 refine tkH 1 ?_
 refine tkH 2 ?_
 refine tkH 3 ?_
 refine tkH 4 ?_
 refine tkH 6 ?_
 refine tkH 7 ?_
 refine wpAnyH_ready (rs := [0, 5]) (by kernel_rfl) (by simp) ?_
 refine AllReadyH.cons (o := ⟨some 53, _, _, _, _, _⟩) rfl (fun K hK => ?_) (AllReadyH.cons (o := ⟨some 58, _, _, _, _, _⟩) rfl (fun K hK => ?_) AllReadyH.nil)
 ·(rw [if_pos (by kernel_rfl)])
  go_simp
  refine hK.out _ _ ⟨b0, b1⟩ (fun hHeld => ?_)
  clear hK K
  clear c0 c1 c2 c3 c4 c5 c6 c7 c8 c9
  refine rdH 5 fun K hK => ?_
  go_simp
  refine (rprev_calls d.now.1 (by omega) d.now.2 _).mono ?_
  rintro e w5a ⟨kw, rfl, hkw, hb5⟩
  have hb5' : Below W4.heap.size W4 w5a := ⟨hb5.os, hb5.tape, hb5.output, hb5.size, hb5.block⟩
  have h05a := H04.out.below hb5'
  have H05 := hid h05a
  have HM5 := hid (HM4.out.below hb5')
  have HK5 := hid (HK4.out.below hb5')
  have HB5 := hid (HB4.out.trans (hb5'.mono HB4.out.size))
  have HL5 : Hid (w.heap.size + 3 ≤ w5a.heap.size) := hid (Nat.le_trans HL4.out hb5'.size)
  refine hK.out _ _ ⟨HK5.out.c0, HK5.out.c1⟩ (fun hHeld => ?_)
  clear hK K
  clear hb5 hb5' h05a
  refine rdH 8 fun K hK => ?_
  go_simp
  refine (dcut_calls w5a D r (⟨d.now, d.back, d.forth, d.opn, d.kills, d.top, 0, d.fr, d.to_⟩ : DS) B ((HD.out.below HB5.out).same rfl rfl rfl) ⟨HO.out.now, HO.out.back, HO.out.forth, HO.out.len, HO.out.kills, HO.out.small, HO.out.top⟩ (kw : Int) d.now.2).mono ?_
  rintro e w5 ⟨r1, d1, gz, rfl, hgz, ht⟩
  have hbt : Below w5a.heap.size w5a w5 := by obtain ⟨_, _, _, _, hb⟩ := ht; exact hb
  have HKt := hid (HK5.out.below hbt)
  have HL2 : Hid (w.heap.size < W2.heap.size) := HW2
  refine hK.out _ _ ⟨HKt.out.c0, HKt.out.c1⟩ (fun hHeld => ?_)
  clear hK K
  clear hbt
  obtain ⟨D1, a1, a2, a3, a4⟩ := ht
  have h05 := H05.out.below a4
  have hm5 := HM5.out.below a4
  have hlc := HL5.out
  have k0 := h05.c 0 rfl
  have k1 := h05.c 1 rfl
  have k2 := h05.c 2 rfl
  have k3 := h05.c 3 rfl
  have k4 := h05.c 4 rfl
  have k5 := h05.c 5 rfl
  have k6 := h05.c 6 rfl
  have k7 := h05.c 7 rfl
  have k8 := h05.c 8 rfl
  have k9 := h05.c 9 rfl
  have u0 := h05.free 0
  have u1 := h05.free 1
  have u2 := h05.free 2
  have u3 := h05.free 3
  have u4 := h05.free 4
  have u5 := h05.free 5
  have u6 := h05.free 6
  have u7 := h05.free 7
  have u8 := h05.free 8
  have u9 := h05.free 9
  obtain ⟨W6, hW6⟩ : ∃ W6, ((((((((((w5.setCell ⟨w.heap.size, 0, none⟩ (.string (bs d1.now.1))).setCell ⟨w.heap.size, 1, none⟩ (.int .i64 d1.now.2)).setCell ⟨w.heap.size, 2, none⟩ (.slice r1.A1 d1.back.length r1.c1)).setCell ⟨w.heap.size, 3, none⟩ (.slice r1.A2 d1.forth.length r1.c2)).setCell ⟨w.heap.size, 4, none⟩ (.bool d1.opn)).setCell ⟨w.heap.size, 5, none⟩ (.slice r1.A3 d1.kills.length r1.c3)).setCell ⟨w.heap.size, 6, none⟩ (.int .i64 d1.top)).setCell ⟨w.heap.size, 7, none⟩ (.int .i64 d1.last)).setCell ⟨w.heap.size, 8, none⟩ (.int .i64 d1.fr)).setCell ⟨w.heap.size, 9, none⟩ (.int .i64 d1.to_)) = W6 := ⟨_, rfl⟩
  have ht6 := ten_boxD h05 r1 d1
  have ho6 := ten_onlyD w5 w.heap.size r1 d1
  have h06 : BxA W6 w.heap.size 32 (dsK r1 d1) := by rw [← hW6]; exact ht6
  have ho7 : Only (fun i => i = w.heap.size) w5 W6 := by rw [← hW6]; exact ho6
  have hm6 : BxA W6 (w.heap.size + 1 + 1) 32 dsZ := hm5.keep ho7 (fun e => by omega)
  have hB5 := HB5.out.trans (a4.mono HB5.out.size)
  have hB6 : Below w.heap.size w W6 := hB5.trans (ho7.below hB5.size (fun i (hi : i = _) => by omega))
  have hin : DsIn D (B + 600) W6 (w.heap.size + 3) r1 d1 := ⟨D1, a1.keep ho7 (fun k hk (e : k = _) => (a3 k hk).elim (fun h1 => by have := HD.out.lt k h1; omega) (fun h1 => by omega)), a2.more, fun k hk => (a3 k hk).imp id (fun h => by omega)⟩
  have HX := hid hm6
  have HF : Hid (DsTo w D (B + 600) (tenD W6 (w.heap.size + 1 + 1) r1 d1) r1 d1) := hid (dsin_fin2 HD.out hin hB6 (by omega) (by omega) (.string (bs d1.now.1)) (.int .i64 d1.now.2) (.slice r1.A1 d1.back.length r1.c1) (.slice r1.A2 d1.forth.length r1.c2) (.bool d1.opn) (.slice r1.A3 d1.kills.length r1.c3) (.int .i64 d1.top) (.int .i64 d1.last) (.int .i64 d1.fr) (.int .i64 d1.to_))
  have H06 := hid h06
  have c0 := h06.c 0 rfl
  have c1 := h06.c 1 rfl
  have c2 := h06.c 2 rfl
  have c3 := h06.c 3 rfl
  have c4 := h06.c 4 rfl
  have c5 := h06.c 5 rfl
  have c6 := h06.c 6 rfl
  have c7 := h06.c 7 rfl
  have c8 := h06.c 8 rfl
  have c9 := h06.c 9 rfl
  have e0 := hm6.c 0 rfl
  have e1 := hm6.c 1 rfl
  have e2 := hm6.c 2 rfl
  have e3 := hm6.c 3 rfl
  have e4 := hm6.c 4 rfl
  have e5 := hm6.c 5 rfl
  have e6 := hm6.c 6 rfl
  have e7 := hm6.c 7 rfl
  have e8 := hm6.c 8 rfl
  have e9 := hm6.c 9 rfl
  have f0 := hm6.free 0
  have f1 := hm6.free 1
  have f2 := hm6.free 2
  have f3 := hm6.free 3
  have f4 := hm6.free 4
  have f5 := hm6.free 5
  have f6 := hm6.free 6
  have f7 := hm6.free 7
  have f8 := hm6.free 8
  have f9 := hm6.free 9
  have HOnly := hid ho7
  clear a1 a2 a3 a4 h05 hm5 ht6 ho6 ho7 hB5 hB6 hin h06 hm6 hlc
  (try unfold dsV)
  refine tkH 9 ?_
  refine tkH 10 ?_
  refine tkH 11 ?_
  refine rdH 12 fun K hK => ?_
  go_simp
  refine hK.out _ _ ⟨(HOnly.out.cell HKt.out.c0 (fun (e : W2.heap.size = w.heap.size) => by have := HL2.out; omega)), (HOnly.out.cell HKt.out.c1 (fun (e : W2.heap.size = w.heap.size) => by have := HL2.out; omega))⟩ (fun hHeld => ?_)
  clear hK K
  refine wpAnyH_done (by kernel_rfl) ?_ _
  go_wp2_with fail
  refine bodyPost_ret (results_bx10' rfl _ _ ((w.heap.size + 1 + 1)) _ _ _ _ _ _ _ _ _ _ _ 32 rfl rfl (ten_box HX.out _ _ _ _ _ _ _ _ _ _) Tryz.underlying32 (szS _)) rfl ?_
  exact ⟨r1, d1, true, rfl, HF.out⟩
 ·(rw [if_pos (by kernel_rfl)])
  go_simp
  refine (rprev_calls d.now.1 (by omega) d.now.2 _).mono ?_
  rintro e w5a ⟨kw, rfl, hkw, hb5⟩
  have hb5' : Below W4.heap.size W4 w5a := ⟨hb5.os, hb5.tape, hb5.output, hb5.size, hb5.block⟩
  have h05a := H04.out.below hb5'
  have H05 := hid h05a
  have HM5 := hid (HM4.out.below hb5')
  have HK5 := hid (HK4.out.below hb5')
  have HB5 := hid (HB4.out.trans (hb5'.mono HB4.out.size))
  have HL5 : Hid (w.heap.size + 3 ≤ w5a.heap.size) := hid (Nat.le_trans HL4.out hb5'.size)
  refine hK.out _ _ ⟨HK5.out.c0, HK5.out.c1⟩ (fun hHeld => ?_)
  clear hK K
  clear c0 c1 c2 c3 c4 c5 c6 c7 c8 c9
  have c0 := h05a.c 0 rfl
  have c1 := h05a.c 1 rfl
  have c2 := h05a.c 2 rfl
  have c3 := h05a.c 3 rfl
  have c4 := h05a.c 4 rfl
  have c5 := h05a.c 5 rfl
  have c6 := h05a.c 6 rfl
  have c7 := h05a.c 7 rfl
  have c8 := h05a.c 8 rfl
  have c9 := h05a.c 9 rfl
  refine rdH 0 fun K hK => ?_
  go_simp
  refine hK.out _ _ ⟨HK5.out.c0, HK5.out.c1⟩ (fun hHeld => ?_)
  clear hK K
  clear hb5 hb5' h05a
  clear c0 c1 c2 c3 c4 c5 c6 c7 c8 c9
  refine rdH 8 fun K hK => ?_
  go_simp
  refine (dcut_calls w5a D r (⟨d.now, d.back, d.forth, d.opn, d.kills, d.top, 0, d.fr, d.to_⟩ : DS) B ((HD.out.below HB5.out).same rfl rfl rfl) ⟨HO.out.now, HO.out.back, HO.out.forth, HO.out.len, HO.out.kills, HO.out.small, HO.out.top⟩ (kw : Int) d.now.2).mono ?_
  rintro e w5 ⟨r1, d1, gz, rfl, hgz, ht⟩
  have hbt : Below w5a.heap.size w5a w5 := by obtain ⟨_, _, _, _, hb⟩ := ht; exact hb
  have HKt := hid (HK5.out.below hbt)
  have HL2 : Hid (w.heap.size < W2.heap.size) := HW2
  refine hK.out _ _ ⟨HKt.out.c0, HKt.out.c1⟩ (fun hHeld => ?_)
  clear hK K
  clear hbt
  obtain ⟨D1, a1, a2, a3, a4⟩ := ht
  have h05 := H05.out.below a4
  have hm5 := HM5.out.below a4
  have hlc := HL5.out
  have k0 := h05.c 0 rfl
  have k1 := h05.c 1 rfl
  have k2 := h05.c 2 rfl
  have k3 := h05.c 3 rfl
  have k4 := h05.c 4 rfl
  have k5 := h05.c 5 rfl
  have k6 := h05.c 6 rfl
  have k7 := h05.c 7 rfl
  have k8 := h05.c 8 rfl
  have k9 := h05.c 9 rfl
  have u0 := h05.free 0
  have u1 := h05.free 1
  have u2 := h05.free 2
  have u3 := h05.free 3
  have u4 := h05.free 4
  have u5 := h05.free 5
  have u6 := h05.free 6
  have u7 := h05.free 7
  have u8 := h05.free 8
  have u9 := h05.free 9
  obtain ⟨W6, hW6⟩ : ∃ W6, ((((((((((w5.setCell ⟨w.heap.size, 0, none⟩ (.string (bs d1.now.1))).setCell ⟨w.heap.size, 1, none⟩ (.int .i64 d1.now.2)).setCell ⟨w.heap.size, 2, none⟩ (.slice r1.A1 d1.back.length r1.c1)).setCell ⟨w.heap.size, 3, none⟩ (.slice r1.A2 d1.forth.length r1.c2)).setCell ⟨w.heap.size, 4, none⟩ (.bool d1.opn)).setCell ⟨w.heap.size, 5, none⟩ (.slice r1.A3 d1.kills.length r1.c3)).setCell ⟨w.heap.size, 6, none⟩ (.int .i64 d1.top)).setCell ⟨w.heap.size, 7, none⟩ (.int .i64 d1.last)).setCell ⟨w.heap.size, 8, none⟩ (.int .i64 d1.fr)).setCell ⟨w.heap.size, 9, none⟩ (.int .i64 d1.to_)) = W6 := ⟨_, rfl⟩
  have ht6 := ten_boxD h05 r1 d1
  have ho6 := ten_onlyD w5 w.heap.size r1 d1
  have h06 : BxA W6 w.heap.size 32 (dsK r1 d1) := by rw [← hW6]; exact ht6
  have ho7 : Only (fun i => i = w.heap.size) w5 W6 := by rw [← hW6]; exact ho6
  have hm6 : BxA W6 (w.heap.size + 1 + 1) 32 dsZ := hm5.keep ho7 (fun e => by omega)
  have hB5 := HB5.out.trans (a4.mono HB5.out.size)
  have hB6 : Below w.heap.size w W6 := hB5.trans (ho7.below hB5.size (fun i (hi : i = _) => by omega))
  have hin : DsIn D (B + 600) W6 (w.heap.size + 3) r1 d1 := ⟨D1, a1.keep ho7 (fun k hk (e : k = _) => (a3 k hk).elim (fun h1 => by have := HD.out.lt k h1; omega) (fun h1 => by omega)), a2.more, fun k hk => (a3 k hk).imp id (fun h => by omega)⟩
  have HX := hid hm6
  have HF : Hid (DsTo w D (B + 600) (tenD W6 (w.heap.size + 1 + 1) r1 d1) r1 d1) := hid (dsin_fin2 HD.out hin hB6 (by omega) (by omega) (.string (bs d1.now.1)) (.int .i64 d1.now.2) (.slice r1.A1 d1.back.length r1.c1) (.slice r1.A2 d1.forth.length r1.c2) (.bool d1.opn) (.slice r1.A3 d1.kills.length r1.c3) (.int .i64 d1.top) (.int .i64 d1.last) (.int .i64 d1.fr) (.int .i64 d1.to_))
  have H06 := hid h06
  have c0 := h06.c 0 rfl
  have c1 := h06.c 1 rfl
  have c2 := h06.c 2 rfl
  have c3 := h06.c 3 rfl
  have c4 := h06.c 4 rfl
  have c5 := h06.c 5 rfl
  have c6 := h06.c 6 rfl
  have c7 := h06.c 7 rfl
  have c8 := h06.c 8 rfl
  have c9 := h06.c 9 rfl
  have e0 := hm6.c 0 rfl
  have e1 := hm6.c 1 rfl
  have e2 := hm6.c 2 rfl
  have e3 := hm6.c 3 rfl
  have e4 := hm6.c 4 rfl
  have e5 := hm6.c 5 rfl
  have e6 := hm6.c 6 rfl
  have e7 := hm6.c 7 rfl
  have e8 := hm6.c 8 rfl
  have e9 := hm6.c 9 rfl
  have f0 := hm6.free 0
  have f1 := hm6.free 1
  have f2 := hm6.free 2
  have f3 := hm6.free 3
  have f4 := hm6.free 4
  have f5 := hm6.free 5
  have f6 := hm6.free 6
  have f7 := hm6.free 7
  have f8 := hm6.free 8
  have f9 := hm6.free 9
  have HOnly := hid ho7
  clear a1 a2 a3 a4 h05 hm5 ht6 ho6 ho7 hB5 hB6 hin h06 hm6 hlc
  (try unfold dsV)
  refine tkH 9 ?_
  refine tkH 10 ?_
  refine tkH 11 ?_
  refine rdH 12 fun K hK => ?_
  go_simp
  refine hK.out _ _ ⟨(HOnly.out.cell HKt.out.c0 (fun (e : W2.heap.size = w.heap.size) => by have := HL2.out; omega)), (HOnly.out.cell HKt.out.c1 (fun (e : W2.heap.size = w.heap.size) => by have := HL2.out; omega))⟩ (fun hHeld => ?_)
  clear hK K
  refine wpAnyH_done (by kernel_rfl) ?_ _
  go_wp2_with fail
  refine bodyPost_ret (results_bx10' rfl _ _ ((w.heap.size + 1 + 1)) _ _ _ _ _ _ _ _ _ _ _ 32 rfl rfl (ten_box HX.out _ _ _ _ _ _ _ _ _ _) Tryz.underlying32 (szS _)) rfl ?_
  exact ⟨r1, d1, true, rfl, HF.out⟩
set_option maxHeartbeats 8000000 in
theorem dpress_k4 (w : World) (D : Nat → Prop) (r : DR) (d : DS) (B : Nat) (h : DsAt w D r d) (hok : d.Ok B) (hB8 : B ≤ 1000000) (t : List UInt8) (ht0 : t.length ≤ 100000) :
  Calls Tryz.prog 26 #[dsV r d, .agg #[.int .i64 4, .string (bs t)]] w fun e w' => ∃ r' d' q, e = .returned (.tuple #[dsV r' d', .bool q]) ∧ DsTo w D (B + 600) w' r' d' := by
 obtain ⟨W2, hW2, hB2, hs2, hb0, hb1, hb2⟩ := boxes7k w r d 4 (bs t)
 have h0x := hb0.alloc (.cells #[.string (bs d.now.1), .int .i64 d.now.2] 28)
 have hyx := hb1.alloc (.cells #[.string (bs d.now.1), .int .i64 d.now.2] 28)
 obtain ⟨W4, hW4⟩ : ∃ W4, (W2.alloc (.cells #[.string (bs d.now.1), .int .i64 d.now.2] 28)).setCell ⟨w.heap.size, 7, none⟩ (.int .i64 0) = W4 := ⟨_, rfl⟩
 have h04 : BxA W4 w.heap.size 32 [.string (bs d.now.1), .int .i64 d.now.2, .slice r.A1 d.back.length r.c1, .slice r.A2 d.forth.length r.c2, .bool d.opn, .slice r.A3 d.kills.length r.c3, .int .i64 d.top, .int .i64 0, .int .i64 d.fr, .int .i64 d.to_] := by rw [← hW4]; exact h0x.set 7 _
 have hy4 : Bx W4 (w.heap.size + 1) 34 (.int .i64 4) (.string (bs t)) := by rw [← hW4]; exact hyx.other (by omega) _
 have hm4 : BxA W4 (w.heap.size + 1 + 1) 32 dsZ := by rw [← hW4]; exact (hb2.alloc _).other (by omega) _
 have hk4 : Bx W4 W2.heap.size 28 (.string (bs d.now.1)) (.int .i64 d.now.2) := by rw [← hW4]; exact (Bx.new W2 _ _ _).other (by omega) _
 have hB4 : Below w.heap.size w W4 := by rw [← hW4]; exact (hB2.alloc hB2.size _).setCell (p := ⟨w.heap.size, 7, none⟩) (Nat.le_refl _) _
 have hs4 : w.heap.size + 3 ≤ W4.heap.size := by rw [← hW4]; simp [World.setCell]; omega
 have hszn := bs_size d.now.1
 have hnow := hok.now
 have _ := hB8
 have _ := ht0
 have k0 := hb0.c 0 rfl
 have k1 := hb0.c 1 rfl
 have k7 := hb0.c 7 rfl
 have x7 := h0x.c 7 rfl
 have u7 := h0x.free 7
 have y0 := hyx.c0
 have z0 := hy4.c0
 have z1 := hy4.c1
 have b0 := hk4.c0
 have b1 := hk4.c1
 have c0 := h04.c 0 rfl
 have c1 := h04.c 1 rfl
 have c2 := h04.c 2 rfl
 have c3 := h04.c 3 rfl
 have c4 := h04.c 4 rfl
 have c5 := h04.c 5 rfl
 have c6 := h04.c 6 rfl
 have c7 := h04.c 7 rfl
 have c8 := h04.c 8 rfl
 have c9 := h04.c 9 rfl
 have H04 := hid h04
 have HM4 := hid hm4
 have HK4 := hid hk4
 have HY4 := hid hy4
 have HB4 := hid hB4
 have HL4 := hid hs4
 have HW2 : Hid (w.heap.size < W2.heap.size) := hid (by omega)
 have HD := hid h
 have HO := hid hok
 have HD4 := hid ((h.below hB4).same (d' := (⟨d.now, d.back, d.forth, d.opn, d.kills, d.top, 0, d.fr, d.to_⟩ : DS)) rfl rfl rfl)
 clear hb0 hb1 hb2 hB2 h0x hyx h04 hm4 hk4 hy4 hB4 hs2 hs4 h hok
 unfold dsV
 go_enter Tryz.func26, Tryz.ntmps26
 go_wp2_with fail
 refine wp_region_held_drew (S := (fun w' => w'.cell? ⟨W2.heap.size, 0, none⟩ = some (.string (bs d.now.1)) ∧ w'.cell? ⟨W2.heap.size, 1, none⟩ = some (.int .i64 d.now.2))) (by kernel_rfl) ⟨b0, b1⟩ (fun hHeld => ?_)
 refine tkH 1 ?_
 refine tkH 2 ?_
 refine tkH 3 ?_
 refine tkH 4 ?_
 refine tkH 5 ?_
 refine tkH 6 ?_
 refine wpAnyH_ready (rs := [0, 7]) (by kernel_rfl) (by simp) ?_
 refine AllReadyH.cons (o := ⟨some 67, _, _, _, _, _⟩) rfl (fun K hK => ?_) (AllReadyH.cons (o := ⟨some 74, _, _, _, _, _⟩) rfl (fun K hK => ?_) AllReadyH.nil)
 ·(rw [if_pos (by kernel_rfl)])
  go_simp
  refine hK.out _ _ ⟨b0, b1⟩ (fun hHeld => ?_)
  clear hK K
  clear c0 c1 c2 c3 c4 c5 c6 c7 c8 c9
  refine rdH 7 fun K hK => ?_
  go_simp
  refine (rnext3_calls d.now.1 (by omega) d.now.2 _).mono ?_
  rintro e w5a ⟨kw, rfl, hkw, hb5⟩
  have hb5' : Below W4.heap.size W4 w5a := ⟨hb5.os, hb5.tape, hb5.output, hb5.size, hb5.block⟩
  have h05a := H04.out.below hb5'
  have H05 := hid h05a
  have HM5 := hid (HM4.out.below hb5')
  have HK5 := hid (HK4.out.below hb5')
  have HB5 := hid (HB4.out.trans (hb5'.mono HB4.out.size))
  have HL5 : Hid (w.heap.size + 3 ≤ w5a.heap.size) := hid (Nat.le_trans HL4.out hb5'.size)
  refine hK.out _ _ ⟨HK5.out.c0, HK5.out.c1⟩ (fun hHeld => ?_)
  clear hK K
  clear hb5 hb5' h05a
  refine rdH 8 fun K hK => ?_
  go_simp
  refine (dcut_calls w5a D r (⟨d.now, d.back, d.forth, d.opn, d.kills, d.top, 0, d.fr, d.to_⟩ : DS) B ((HD.out.below HB5.out).same rfl rfl rfl) ⟨HO.out.now, HO.out.back, HO.out.forth, HO.out.len, HO.out.kills, HO.out.small, HO.out.top⟩ d.now.2 (kw : Int)).mono ?_
  rintro e w5 ⟨r1, d1, gz, rfl, hgz, ht⟩
  have hbt : Below w5a.heap.size w5a w5 := by obtain ⟨_, _, _, _, hb⟩ := ht; exact hb
  have HKt := hid (HK5.out.below hbt)
  have HL2 : Hid (w.heap.size < W2.heap.size) := HW2
  refine hK.out _ _ ⟨HKt.out.c0, HKt.out.c1⟩ (fun hHeld => ?_)
  clear hK K
  clear hbt
  obtain ⟨D1, a1, a2, a3, a4⟩ := ht
  have h05 := H05.out.below a4
  have hm5 := HM5.out.below a4
  have hlc := HL5.out
  have k0 := h05.c 0 rfl
  have k1 := h05.c 1 rfl
  have k2 := h05.c 2 rfl
  have k3 := h05.c 3 rfl
  have k4 := h05.c 4 rfl
  have k5 := h05.c 5 rfl
  have k6 := h05.c 6 rfl
  have k7 := h05.c 7 rfl
  have k8 := h05.c 8 rfl
  have k9 := h05.c 9 rfl
  have u0 := h05.free 0
  have u1 := h05.free 1
  have u2 := h05.free 2
  have u3 := h05.free 3
  have u4 := h05.free 4
  have u5 := h05.free 5
  have u6 := h05.free 6
  have u7 := h05.free 7
  have u8 := h05.free 8
  have u9 := h05.free 9
  obtain ⟨W6, hW6⟩ : ∃ W6, ((((((((((w5.setCell ⟨w.heap.size, 0, none⟩ (.string (bs d1.now.1))).setCell ⟨w.heap.size, 1, none⟩ (.int .i64 d1.now.2)).setCell ⟨w.heap.size, 2, none⟩ (.slice r1.A1 d1.back.length r1.c1)).setCell ⟨w.heap.size, 3, none⟩ (.slice r1.A2 d1.forth.length r1.c2)).setCell ⟨w.heap.size, 4, none⟩ (.bool d1.opn)).setCell ⟨w.heap.size, 5, none⟩ (.slice r1.A3 d1.kills.length r1.c3)).setCell ⟨w.heap.size, 6, none⟩ (.int .i64 d1.top)).setCell ⟨w.heap.size, 7, none⟩ (.int .i64 d1.last)).setCell ⟨w.heap.size, 8, none⟩ (.int .i64 d1.fr)).setCell ⟨w.heap.size, 9, none⟩ (.int .i64 d1.to_)) = W6 := ⟨_, rfl⟩
  have ht6 := ten_boxD h05 r1 d1
  have ho6 := ten_onlyD w5 w.heap.size r1 d1
  have h06 : BxA W6 w.heap.size 32 (dsK r1 d1) := by rw [← hW6]; exact ht6
  have ho7 : Only (fun i => i = w.heap.size) w5 W6 := by rw [← hW6]; exact ho6
  have hm6 : BxA W6 (w.heap.size + 1 + 1) 32 dsZ := hm5.keep ho7 (fun e => by omega)
  have hB5 := HB5.out.trans (a4.mono HB5.out.size)
  have hB6 : Below w.heap.size w W6 := hB5.trans (ho7.below hB5.size (fun i (hi : i = _) => by omega))
  have hin : DsIn D (B + 600) W6 (w.heap.size + 3) r1 d1 := ⟨D1, a1.keep ho7 (fun k hk (e : k = _) => (a3 k hk).elim (fun h1 => by have := HD.out.lt k h1; omega) (fun h1 => by omega)), a2.more, fun k hk => (a3 k hk).imp id (fun h => by omega)⟩
  have HX := hid hm6
  have HF : Hid (DsTo w D (B + 600) (tenD W6 (w.heap.size + 1 + 1) r1 d1) r1 d1) := hid (dsin_fin2 HD.out hin hB6 (by omega) (by omega) (.string (bs d1.now.1)) (.int .i64 d1.now.2) (.slice r1.A1 d1.back.length r1.c1) (.slice r1.A2 d1.forth.length r1.c2) (.bool d1.opn) (.slice r1.A3 d1.kills.length r1.c3) (.int .i64 d1.top) (.int .i64 d1.last) (.int .i64 d1.fr) (.int .i64 d1.to_))
  have H06 := hid h06
  have c0 := h06.c 0 rfl
  have c1 := h06.c 1 rfl
  have c2 := h06.c 2 rfl
  have c3 := h06.c 3 rfl
  have c4 := h06.c 4 rfl
  have c5 := h06.c 5 rfl
  have c6 := h06.c 6 rfl
  have c7 := h06.c 7 rfl
  have c8 := h06.c 8 rfl
  have c9 := h06.c 9 rfl
  have e0 := hm6.c 0 rfl
  have e1 := hm6.c 1 rfl
  have e2 := hm6.c 2 rfl
  have e3 := hm6.c 3 rfl
  have e4 := hm6.c 4 rfl
  have e5 := hm6.c 5 rfl
  have e6 := hm6.c 6 rfl
  have e7 := hm6.c 7 rfl
  have e8 := hm6.c 8 rfl
  have e9 := hm6.c 9 rfl
  have f0 := hm6.free 0
  have f1 := hm6.free 1
  have f2 := hm6.free 2
  have f3 := hm6.free 3
  have f4 := hm6.free 4
  have f5 := hm6.free 5
  have f6 := hm6.free 6
  have f7 := hm6.free 7
  have f8 := hm6.free 8
  have f9 := hm6.free 9
  have HOnly := hid ho7
  clear a1 a2 a3 a4 h05 hm5 ht6 ho6 ho7 hB5 hB6 hin h06 hm6 hlc
  (try unfold dsV)
  refine tkH 9 ?_
  refine tkH 10 ?_
  refine tkH 11 ?_
  refine rdH 12 fun K hK => ?_
  go_simp
  refine hK.out _ _ ⟨(HOnly.out.cell HKt.out.c0 (fun (e : W2.heap.size = w.heap.size) => by have := HL2.out; omega)), (HOnly.out.cell HKt.out.c1 (fun (e : W2.heap.size = w.heap.size) => by have := HL2.out; omega))⟩ (fun hHeld => ?_)
  clear hK K
  refine wpAnyH_done (by kernel_rfl) ?_ _
  go_wp2_with fail
  refine bodyPost_ret (results_bx10' rfl _ _ ((w.heap.size + 1 + 1)) _ _ _ _ _ _ _ _ _ _ _ 32 rfl rfl (ten_box HX.out _ _ _ _ _ _ _ _ _ _) Tryz.underlying32 (szS _)) rfl ?_
  exact ⟨r1, d1, true, rfl, HF.out⟩
 ·(rw [if_pos (by kernel_rfl)])
  go_simp
  refine (rnext3_calls d.now.1 (by omega) d.now.2 _).mono ?_
  rintro e w5a ⟨kw, rfl, hkw, hb5⟩
  have hb5' : Below W4.heap.size W4 w5a := ⟨hb5.os, hb5.tape, hb5.output, hb5.size, hb5.block⟩
  have h05a := H04.out.below hb5'
  have H05 := hid h05a
  have HM5 := hid (HM4.out.below hb5')
  have HK5 := hid (HK4.out.below hb5')
  have HB5 := hid (HB4.out.trans (hb5'.mono HB4.out.size))
  have HL5 : Hid (w.heap.size + 3 ≤ w5a.heap.size) := hid (Nat.le_trans HL4.out hb5'.size)
  refine hK.out _ _ ⟨HK5.out.c0, HK5.out.c1⟩ (fun hHeld => ?_)
  clear hK K
  clear c0 c1 c2 c3 c4 c5 c6 c7 c8 c9
  have c0 := h05a.c 0 rfl
  have c1 := h05a.c 1 rfl
  have c2 := h05a.c 2 rfl
  have c3 := h05a.c 3 rfl
  have c4 := h05a.c 4 rfl
  have c5 := h05a.c 5 rfl
  have c6 := h05a.c 6 rfl
  have c7 := h05a.c 7 rfl
  have c8 := h05a.c 8 rfl
  have c9 := h05a.c 9 rfl
  refine rdH 0 fun K hK => ?_
  go_simp
  refine hK.out _ _ ⟨HK5.out.c0, HK5.out.c1⟩ (fun hHeld => ?_)
  clear hK K
  clear hb5 hb5' h05a
  clear c0 c1 c2 c3 c4 c5 c6 c7 c8 c9
  refine rdH 8 fun K hK => ?_
  go_simp
  refine (dcut_calls w5a D r (⟨d.now, d.back, d.forth, d.opn, d.kills, d.top, 0, d.fr, d.to_⟩ : DS) B ((HD.out.below HB5.out).same rfl rfl rfl) ⟨HO.out.now, HO.out.back, HO.out.forth, HO.out.len, HO.out.kills, HO.out.small, HO.out.top⟩ d.now.2 (kw : Int)).mono ?_
  rintro e w5 ⟨r1, d1, gz, rfl, hgz, ht⟩
  have hbt : Below w5a.heap.size w5a w5 := by obtain ⟨_, _, _, _, hb⟩ := ht; exact hb
  have HKt := hid (HK5.out.below hbt)
  have HL2 : Hid (w.heap.size < W2.heap.size) := HW2
  refine hK.out _ _ ⟨HKt.out.c0, HKt.out.c1⟩ (fun hHeld => ?_)
  clear hK K
  clear hbt
  obtain ⟨D1, a1, a2, a3, a4⟩ := ht
  have h05 := H05.out.below a4
  have hm5 := HM5.out.below a4
  have hlc := HL5.out
  have k0 := h05.c 0 rfl
  have k1 := h05.c 1 rfl
  have k2 := h05.c 2 rfl
  have k3 := h05.c 3 rfl
  have k4 := h05.c 4 rfl
  have k5 := h05.c 5 rfl
  have k6 := h05.c 6 rfl
  have k7 := h05.c 7 rfl
  have k8 := h05.c 8 rfl
  have k9 := h05.c 9 rfl
  have u0 := h05.free 0
  have u1 := h05.free 1
  have u2 := h05.free 2
  have u3 := h05.free 3
  have u4 := h05.free 4
  have u5 := h05.free 5
  have u6 := h05.free 6
  have u7 := h05.free 7
  have u8 := h05.free 8
  have u9 := h05.free 9
  obtain ⟨W6, hW6⟩ : ∃ W6, ((((((((((w5.setCell ⟨w.heap.size, 0, none⟩ (.string (bs d1.now.1))).setCell ⟨w.heap.size, 1, none⟩ (.int .i64 d1.now.2)).setCell ⟨w.heap.size, 2, none⟩ (.slice r1.A1 d1.back.length r1.c1)).setCell ⟨w.heap.size, 3, none⟩ (.slice r1.A2 d1.forth.length r1.c2)).setCell ⟨w.heap.size, 4, none⟩ (.bool d1.opn)).setCell ⟨w.heap.size, 5, none⟩ (.slice r1.A3 d1.kills.length r1.c3)).setCell ⟨w.heap.size, 6, none⟩ (.int .i64 d1.top)).setCell ⟨w.heap.size, 7, none⟩ (.int .i64 d1.last)).setCell ⟨w.heap.size, 8, none⟩ (.int .i64 d1.fr)).setCell ⟨w.heap.size, 9, none⟩ (.int .i64 d1.to_)) = W6 := ⟨_, rfl⟩
  have ht6 := ten_boxD h05 r1 d1
  have ho6 := ten_onlyD w5 w.heap.size r1 d1
  have h06 : BxA W6 w.heap.size 32 (dsK r1 d1) := by rw [← hW6]; exact ht6
  have ho7 : Only (fun i => i = w.heap.size) w5 W6 := by rw [← hW6]; exact ho6
  have hm6 : BxA W6 (w.heap.size + 1 + 1) 32 dsZ := hm5.keep ho7 (fun e => by omega)
  have hB5 := HB5.out.trans (a4.mono HB5.out.size)
  have hB6 : Below w.heap.size w W6 := hB5.trans (ho7.below hB5.size (fun i (hi : i = _) => by omega))
  have hin : DsIn D (B + 600) W6 (w.heap.size + 3) r1 d1 := ⟨D1, a1.keep ho7 (fun k hk (e : k = _) => (a3 k hk).elim (fun h1 => by have := HD.out.lt k h1; omega) (fun h1 => by omega)), a2.more, fun k hk => (a3 k hk).imp id (fun h => by omega)⟩
  have HX := hid hm6
  have HF : Hid (DsTo w D (B + 600) (tenD W6 (w.heap.size + 1 + 1) r1 d1) r1 d1) := hid (dsin_fin2 HD.out hin hB6 (by omega) (by omega) (.string (bs d1.now.1)) (.int .i64 d1.now.2) (.slice r1.A1 d1.back.length r1.c1) (.slice r1.A2 d1.forth.length r1.c2) (.bool d1.opn) (.slice r1.A3 d1.kills.length r1.c3) (.int .i64 d1.top) (.int .i64 d1.last) (.int .i64 d1.fr) (.int .i64 d1.to_))
  have H06 := hid h06
  have c0 := h06.c 0 rfl
  have c1 := h06.c 1 rfl
  have c2 := h06.c 2 rfl
  have c3 := h06.c 3 rfl
  have c4 := h06.c 4 rfl
  have c5 := h06.c 5 rfl
  have c6 := h06.c 6 rfl
  have c7 := h06.c 7 rfl
  have c8 := h06.c 8 rfl
  have c9 := h06.c 9 rfl
  have e0 := hm6.c 0 rfl
  have e1 := hm6.c 1 rfl
  have e2 := hm6.c 2 rfl
  have e3 := hm6.c 3 rfl
  have e4 := hm6.c 4 rfl
  have e5 := hm6.c 5 rfl
  have e6 := hm6.c 6 rfl
  have e7 := hm6.c 7 rfl
  have e8 := hm6.c 8 rfl
  have e9 := hm6.c 9 rfl
  have f0 := hm6.free 0
  have f1 := hm6.free 1
  have f2 := hm6.free 2
  have f3 := hm6.free 3
  have f4 := hm6.free 4
  have f5 := hm6.free 5
  have f6 := hm6.free 6
  have f7 := hm6.free 7
  have f8 := hm6.free 8
  have f9 := hm6.free 9
  have HOnly := hid ho7
  clear a1 a2 a3 a4 h05 hm5 ht6 ho6 ho7 hB5 hB6 hin h06 hm6 hlc
  (try unfold dsV)
  refine tkH 9 ?_
  refine tkH 10 ?_
  refine tkH 11 ?_
  refine rdH 12 fun K hK => ?_
  go_simp
  refine hK.out _ _ ⟨(HOnly.out.cell HKt.out.c0 (fun (e : W2.heap.size = w.heap.size) => by have := HL2.out; omega)), (HOnly.out.cell HKt.out.c1 (fun (e : W2.heap.size = w.heap.size) => by have := HL2.out; omega))⟩ (fun hHeld => ?_)
  clear hK K
  refine wpAnyH_done (by kernel_rfl) ?_ _
  go_wp2_with fail
  refine bodyPost_ret (results_bx10' rfl _ _ ((w.heap.size + 1 + 1)) _ _ _ _ _ _ _ _ _ _ _ 32 rfl rfl (ten_box HX.out _ _ _ _ _ _ _ _ _ _) Tryz.underlying32 (szS _)) rfl ?_
  exact ⟨r1, d1, true, rfl, HF.out⟩
end
section
open Go Go.RowKit
theorem dpress_calls (w : World) (D : Nat → Prop) (r : DR) (d : DS) (B : Nat) (h : DsAt w D r d) (hok : d.Ok B) (hB8 : B ≤ 1000000) (kk : Int) (t : List UInt8) (ht0 : t.length ≤ 100000) :
  Calls Tryz.prog 26 #[dsV r d, .agg #[.int .i64 kk, .string (bs t)]] w fun e w' => ∃ r' d' q, e = .returned (.tuple #[dsV r' d', .bool q]) ∧ DsTo w D (B + 600) w' r' d' := by
 cases hk : LN.known kk with
 | false => exact dpress_kn w D r d B h hok t kk hk
 | true =>
  have hk' : kk = 1 ∨ (3 ≤ kk ∧ kk ≤ 18) ∨ kk = 24 ∨ kk = 26 := of_decide_eq_true hk
  have hc : kk = 1 ∨ kk = 3 ∨ kk = 4 ∨ kk = 5 ∨ kk = 6 ∨ kk = 7 ∨ kk = 8 ∨ kk = 9 ∨ kk = 10 ∨ kk = 11 ∨ kk = 12 ∨ kk = 13 ∨ kk = 14 ∨ kk = 15 ∨ kk = 16 ∨ kk = 17 ∨ kk = 18 ∨ kk = 24 ∨ kk = 26 := by omega
  rcases hc with rfl | rfl | rfl | rfl | rfl | rfl | rfl | rfl | rfl | rfl | rfl | rfl | rfl | rfl | rfl | rfl | rfl | rfl | rfl
  ·exact dpress_k1 w D r d B h hok hB8 t ht0
  ·exact dpress_k3 w D r d B h hok hB8 t ht0
  ·exact dpress_k4 w D r d B h hok hB8 t ht0
  ·exact dpress_k5 w D r d B h hok hB8 t ht0
  ·exact dpress_k6 w D r d B h hok hB8 t ht0
  ·exact dpress_k7 w D r d B h hok hB8 t ht0
  ·exact dpress_k8 w D r d B h hok hB8 t ht0
  ·exact dpress_k9 w D r d B h hok hB8 t ht0
  ·exact dpress_k10 w D r d B h hok hB8 t ht0
  ·exact dpress_k11 w D r d B h hok hB8 t ht0
  ·exact dpress_k12 w D r d B h hok hB8 t ht0
  ·exact dpress_k13 w D r d B h hok hB8 t ht0
  ·exact dpress_k14 w D r d B h hok hB8 t ht0
  ·exact dpress_k15 w D r d B h hok hB8 t ht0
  ·exact dpress_k16 w D r d B h hok hB8 t ht0
  ·exact dpress_k17 w D r d B h hok hB8 t ht0
  ·exact dpress_k18 w D r d B h hok hB8 t ht0
  ·exact dpress_k24 w D r d B h hok hB8 t ht0
  ·exact dpress_k26 w D r d B h hok hB8 t ht0
end
section
open Go Go.RowKit
set_option maxRecDepth 100000
section
variable (w : World) (O F : Nat → Prop) (b : Nat) (s : LN)
set_option maxHeartbeats 2000000 in
theorem clear_callsL (h : LineL w O F b s) (_ : Spans w) :
  Calls Tryz.prog 31 #[.pointer (some ⟨b, 0, none⟩)] w fun e w' => e = .returned (.tuple #[]) ∧ ToLn w O F w' b s.clear := by
 obtain ⟨g, r, Rl, Rr, hA⟩ := h
 have HA := Lib.hid hA
 clear hA
 go_enter Tryz.func31, Tryz.ntmps31
 go_wp2_with fail
 refine (empty_callsL w).mono ?_
 rintro e w2 ⟨g', rfl, hi⟩
 have hlt := HA.out.box.below (InL.bel hi)
 have x0 := hlt.c 0 rfl
 have x1 := hlt.free 0
 obtain ⟨O3, F3, ⟨g3, r3, Rl3, Rr3, hA⟩, hst⟩ := HA.out.log_new hi ⟨LS.Ok.new _ _, rfl, LN.RtL.new, HA.out.ok.ring, HA.out.ok.rlim⟩
 have z2 := hA.box.c 2 rfl
 have z3 := hA.box.c 3 rfl
 have z4 := hA.box.c 4 rfl
 have y2 := hA.box.free 2
 have y3 := hA.box.free 3
 have y4 := hA.box.free 4
 have hto := hA.last_to .none
 have HT := Lib.hid (StepF.tom hst hto)
 clear hA hst hto hi hlt
 go_wp2_with fail
 go_end0
 exact ⟨rfl, HT.out⟩
end
end
section
open Go
set_option maxRecDepth 100000
namespace LN
theorem key_kill (s : LN) (hok : s.Ok) {k : Int} (h : 11 ≤ k ∧ k ≤ 14) : ∃ f t ah, s.key k [] = s.kill f t ah ∧ IsB s.buf.1 f ∧ IsB s.buf.1 t ∧ (if k = 12 ∨ k = 13 then t = s.buf.2 else f = s.buf.2) := by
 have hrt : Rt s.buf.1 s.buf.2 := hok.rt.1
 have h2 : k = 11 ∨ k = 12 ∨ k = 13 ∨ k = 14 := by omega
 rcases h2 with rfl | rfl | rfl | rfl
 ·exact ⟨s.buf.2, s.buf.1.length, false, rfl, hrt.2.2, isB_all _, by rw [if_neg (by decide)]⟩
 ·exact ⟨0, s.buf.2, true, rfl, isB_zero _, hrt.2.2, by rw [if_pos (by decide)]⟩
 ·exact ⟨wlL s.buf.1 s.buf.2, s.buf.2, true, rfl, hrt.wl, hrt.2.2, by rw [if_pos (by decide)]⟩
 ·exact ⟨s.buf.2, wrL s.buf.1 s.buf.2, false, rfl, hrt.2.2, hrt.wr, by rw [if_neg (by decide)]⟩
structure YankAt (s s2 : LN) (f : Nat) (g : List UInt8) : Prop where
 ring : ∃ rest, s2.ring.l = bs g :: rest
 len : s2.buf.1.length + g.length = s.buf.1.length
 to_ : f + g.length ≤ s.buf.1.length
 yank : s2.buf.2 = f → (s2.key 15 []).buf.1 = s.buf.1 ∧ (s2.key 15 []).log.back.length = min (s2.log.back.length + 1) 32 ∧ ((s2.key 15 []).key 17 []).buf = s2.buf
theorem YankAt.of {s : LN} (hok : s.Ok) (hl : s.last ≠ .kill) {f t : Nat} {ah : Bool} (hf : IsB s.buf.1 f) (ht : IsB s.buf.1 t) (hok2 : (s.kill f t ah).Ok) (hne : (s.kill f t ah).buf.1 ≠ s.buf.1) :
  YankAt s (s.kill f t ah) f (goneS s.buf.1 f t) ∧ f + (goneS s.buf.1 f t).length = t := by
 have hlt := kill_lt hne
 have hgl := gone_len (f := f) ht.le
 obtain ⟨h1, h2⟩ := kill_cut (s := s) ah hlt
 have htl := ht.le
 refine ⟨⟨?_, ?_, by omega, fun hat => ?_⟩, by omega⟩
 ·rw [kill_push hl ah hlt ht.le]
  exact ⟨_, rfl⟩
 ·rw [h1, hgl]
  exact cutS_length s.buf.1 f t (Nat.le_of_lt hlt) ht.le
 ·obtain ⟨X, x1, x2, x3⟩ := kill_yank hok hl hf ht ah hlt hat
  have hXn : X ≠ (s.kill f t ah).log.now := fun e => hne (by
   have := congrArg Prod.fst e
   rw [x1] at this
   exact this.symm)
  have hlen := hok2.log.len
  have hlim := hok2.lim
  obtain ⟨y1, y2⟩ := wr_back (s.kill f t ah).log X hXn hlim (by omega)
  refine ⟨?_, ?_, ?_⟩
  ·show (s.kill f t ah).yank.buf.1 = _
   rw [x3, x1]
  ·show (s.kill f t ah).yank.log.back.length = _
   rw [x2]
   exact y1
  ·show (s.kill f t ah).yank.log.undo.now = _
   rw [x2]
   exact y2
theorem mv_last (s : LN) : ((s.key 5 []).key 6 []).last = .none := rfl
end LN
end
end Go.Proofs.YtoaponaljkhlfaaGreatDoor
