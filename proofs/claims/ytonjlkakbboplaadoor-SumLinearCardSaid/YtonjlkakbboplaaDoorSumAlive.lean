/-
  The law's alive (layer 9).
-/
import Derived.Test.YtonjlkakbboplaaDoorSumCMath
import Derived.Test.YtonjlkakbboplaaDoorEqA4
import Derived.Lib.SlBytesConst
import Derived.Deep.Cut
import Derived.Deep.RegionHeldLaw
import Derived.Deep.RegionHeld3
namespace Go.Proofs.YtonjlkakbboplaaDoor
open Go Go.RowKit
set_option maxRecDepth 100000

theorem byt_tail {w : World} {g : Nat} (h : Byt w (some ⟨g, 0, none⟩) dig9) : Byt w (some ⟨g, 4, none⟩) (dig9.drop 4) := by
  have := h.drop 9 4 (by decide)
  simpa [dropA, Addr.add] using this
theorem byt_litF (w : World) (l : List UInt8) (fr : Nat × Nat) : Byt (w.alloc (.cells (Lib.byteCells l).toArray 5 fr)) (some ⟨w.heap.size, 0, none⟩) l :=
  Byt.mk_ fun i hi => by
    rw [Nat.zero_add]
    simp [World.cell?, World.alloc, Lib.byteCells, hi, List.getD, -World.alloc_eq]
theorem conv_litF (w : World) (l : List UInt8) : (convert 22 22 (.slice (some ⟨w.heap.size, 0, none⟩) l.length l.length)).run Tryd.prog (w.alloc (.cells (Lib.byteCells l).toArray 5)) = .ok (.slice (some ⟨w.heap.size, 0, none⟩) l.length l.length) (w.alloc (.cells (Lib.byteCells l).toArray 5 (l.length, l.length + 1))) := by
  have h := Lib.run_convert_bytes_const (P := Tryd.prog) w 22 5 (Lib.byteCells l).toArray l.length l.length Tryd.underlying22 Tryd.underlying5
  rwa [show (Lib.byteCells l).toArray.size = l.length by simp [Lib.byteCells]] at h
/-- The nine digits lie in their block, and so do the tables. -/
def BT (w0 w : World) : Prop := Byt w (some ⟨w0.heap.size, 0, none⟩) dig9 ∧ Lays w
theorem BT.below {w0 w w' : World} (h : BT w0 w) (hb : Below w.heap.size w w') : BT w0 w' := ⟨h.1.below hb, h.2.on hb⟩
set_option maxHeartbeats 8000000 in
theorem salive_calls (w0 : World) (ht : Lays w0) : Calls Tryd.prog 10 #[] w0 fun e w' => e = .returned (.bool true) ∧ Below w0.heap.size w0 w' := by
  have hq4 := eqA4 38 57 244 203
  have HOf9 : Hid (∀ W, BT w0 W → Calls Tryd.prog 11 #[.slice (some ⟨w0.heap.size, 0, none⟩) 9 9] W fun e w' => e = .returned (.int .u32 3421780262) ∧ Below W.heap.size W w') := Lib.hid (fun W h => by
    have := sof_calls (some ⟨w0.heap.size, 0, none⟩) 9 dig9 W h.1 (by decide) h.2
    rw [crc_dig9] at this
    exact this)
  have HOf4 : Hid (∀ W, BT w0 W → Calls Tryd.prog 11 #[.slice (some ⟨w0.heap.size, 0, none⟩) 4 9] W fun e w' => e = .returned (.int .u32 ((crcL (dig9.take 4)).toNat : Int)) ∧ Below W.heap.size W w') := Lib.hid (fun W h => sof_calls (some ⟨w0.heap.size, 0, none⟩) 9 (dig9.take 4) W (h.1.take 4) (by decide) h.2)
  have HOf5 : Hid (∀ W, BT w0 W → Calls Tryd.prog 11 #[.slice (some ⟨w0.heap.size, 4, none⟩) 5 5] W fun e w' => e = .returned (.int .u32 ((crcL (dig9.drop 4)).toNat : Int)) ∧ Below W.heap.size W w') := Lib.hid (fun W h => sof_calls (some ⟨w0.heap.size, 4, none⟩) 5 (dig9.drop 4) W (byt_tail h.1) (by decide) h.2)
  have HAdd : Hid (∀ W, BT w0 W → Calls Tryd.prog 13 #[.int .u32 ((crcL (dig9.take 4)).toNat : Int), .slice (some ⟨w0.heap.size, 4, none⟩) 5 5] W fun e w' => e = .returned (.int .u32 3421780262) ∧ Below W.heap.size W w') := Lib.hid (fun W h => by
    have := sadd_calls (crcL (dig9.take 4)) (some ⟨w0.heap.size, 4, none⟩) 5 (dig9.drop 4) W (byt_tail h.1) (by decide) h.2
    rw [add_dig9, crc_dig9] at this
    exact this)
  have HBy : Hid (∀ W, Calls Tryd.prog 17 #[.int .u32 3421780262] W fun e w' => e = .returned (.agg #[.int .u8 38, .int .u8 57, .int .u8 244, .int .u8 203]) ∧ Below W.heap.size W w') := Lib.hid (fun W => by
    have := sbytes_calls (crcL dig9) W
    rw [by_dig9.1, by_dig9.2.1, by_dig9.2.2.1, by_dig9.2.2.2, crc_dig9] at this
    exact this)
  have HJoin : Hid (∀ W, BT w0 W → Calls Tryd.prog 14 #[.int .u32 ((crcL (dig9.take 4)).toNat : Int), .int .u32 ((crcL (dig9.drop 4)).toNat : Int), .int .i64 5] W fun e w' => e = .returned (.int .u32 3421780262) ∧ Below W.heap.size W w') := Lib.hid (fun W h => by
    have := sjoin_calls (crcL (dig9.take 4)) (crcL (dig9.drop 4)) 5 W h.2
    rw [join_dig9, crc_dig9] at this
    exact this)
  have HSh : Hid (∀ W, BT w0 W → Calls Tryd.prog 15 #[.int .u32 1, .int .i64 0] W fun e w' => e = .returned (.int .u32 1) ∧ Below W.heap.size W w') := Lib.hid (fun W h => by
    have := sshift_calls 1#32 0 W h.2
    rw [shf_one] at this
    exact this)
  have HNil : Hid (∀ W, BT w0 W → Calls Tryd.prog 11 #[.slice none 0 0] W fun e w' => e = .returned (.int .u32 0) ∧ Below W.heap.size W w') := Lib.hid (fun W h => by
    have := sof_calls none 0 [] W (Byt.nil_ _ _) (by decide) h.2
    rw [crc_nil] at this
    exact this)
  have HRd : Hid (∀ (W : World) g, Byt W (some ⟨g, 0, none⟩) [38, 57, 244, 203, 1] → Calls Tryd.prog 18 #[.slice (some ⟨g, 0, none⟩) 5 5] W fun e w' => e = .returned (.tuple #[.int .u32 3421780262, .bool true]) ∧ Below W.heap.size W w') := Lib.hid (fun W g h => by
    have := sread_calls (some ⟨g, 0, none⟩) 5 [38, 57, 244, 203, 1] W h (by decide)
    rw [if_pos (by decide), read_dig9] at this
    exact this)
  generalize (crcL (dig9.take 4)).toNat = c4 at *
  generalize (crcL (dig9.drop 4)).toNat = c5 at *
  have hd := byt_litF w0 dig9 (9, 10)
  have hcv : (convert 22 22 (.slice (some ⟨w0.heap.size, 0, none⟩) 9 9)).run Tryd.prog (w0.alloc (.cells #[.int .u8 49, .int .u8 50, .int .u8 51, .int .u8 52, .int .u8 53, .int .u8 54, .int .u8 55, .int .u8 56, .int .u8 57] 5)) = .ok (.slice (some ⟨w0.heap.size, 0, none⟩) 9 9) (w0.alloc (.cells #[.int .u8 49, .int .u8 50, .int .u8 51, .int .u8 52, .int .u8 53, .int .u8 54, .int .u8 55, .int .u8 56, .int .u8 57] 5 (9, 10))) := conv_litF w0 dig9
  have hl1 : ∃ w1, w0.alloc (.cells #[.int .u8 49, .int .u8 50, .int .u8 51, .int .u8 52, .int .u8 53, .int .u8 54, .int .u8 55, .int .u8 56, .int .u8 57] 5 (9, 10)) = w1 := ⟨_, rfl⟩
  obtain ⟨w1, hw1⟩ := hl1
  rw [hw1] at hcv
  have hd1 : Byt w1 (some ⟨w0.heap.size, 0, none⟩) dig9 := by rw [← hw1]; exact hd
  have hb1 : Below w0.heap.size w0 w1 := by rw [← hw1]; exact (Below.refl _ _).alloc (Nat.le_refl _) _
  have hd2 := byt_lit w1 [38, 57, 244, 203, 1]
  have hl2 : ∃ w2, w1.alloc (.cells #[.int .u8 38, .int .u8 57, .int .u8 244, .int .u8 203, .int .u8 1] 5) = w2 := ⟨_, rfl⟩
  obtain ⟨w2, hw2⟩ := hl2
  have hd3 : Byt w2 (some ⟨w1.heap.size, 0, none⟩) [38, 57, 244, 203, 1] := by rw [← hw2]; exact hd2
  have hb2 : Below w0.heap.size w0 w2 := by rw [← hw2]; exact hb1.alloc hb1.size _
  have hk2 : BT w0 w2 := ⟨by rw [← hw2]; exact hd1.alloc _, ht.on hb2⟩
  have K2 := Lib.hid hk2
  have D3 := Lib.hid hd3
  have HBa := Lib.hid hb2
  clear hd hd1 hb1 hd2 hd3 hk2 hb2
  go_enter Tryd.func10, Tryd.ntmps10
  go_wp2_with fail
  refine (HRd.out w2 _ D3.out).mono ?_
  rintro e w3 ⟨rfl, hb⟩
  have HB0 := Lib.hid ((HBa.out.trans (hb.mono HBa.out.size)).drew)
  have k0 : BT w0 w3.drew := (K2.out.below hb : BT w0 w3)
  clear hb hw1 hw2 hcv D3 K2 HRd HBa
  go_upto_region 3 with fail
  refine wp_region_held_drew (S := (fun w' => BT w0 w')) (by kernel_rfl) k0 (fun hHeld => ?_)
  refine wpAnyH_take (i := 0) (oi := ⟨some 11, _, _, _, _, _⟩) (v := ?_) rfl (by kernel_rfl) (by kernel_rfl) (by kernel_rfl) (fun _ _ _ h => h) (Or.inl ⟨by kernel_rfl, ?hy0⟩) (by assumption) ?_
  case hy0 => (intro w' hSw; (try dsimp only at hSw); go_simp; try with_reducible rfl)
  simp only [Act.put, List.setIfInBounds_toArray, List.set_cons_zero, List.set_cons_succ]
  refine wpAnyH_ready (rs := [1]) (by kernel_rfl) (by simp) ?_
  refine AllReadyH.cons (o := ⟨some 12, _, _, _, _, _⟩) rfl (fun K hK => ?_) AllReadyH.nil
  (rw [if_pos (by kernel_rfl)])
  go_simp
  refine (HOf9.out _ k0).mono ?_; rintro e y1 ⟨rfl, hb⟩; have HB1 := Lib.hid (HB0.out.trans (hb.mono HB0.out.size)); have k1 := BT.below k0 hb; clear hb
  refine hK.out _ _ k1 (fun hHeld => ?_)
  clear hK K
  refine wpAnyH_take (i := 2) (oi := ⟨some 13, _, _, _, _, _⟩) (v := ?_) rfl (by kernel_rfl) (by kernel_rfl) (by kernel_rfl) (fun _ _ _ h => h) (Or.inl ⟨by kernel_rfl, ?hy2⟩) (by assumption) ?_
  case hy2 => (intro w' hSw; (try dsimp only at hSw); go_simp; try with_reducible rfl)
  simp only [Act.put, List.setIfInBounds_toArray, List.set_cons_zero, List.set_cons_succ]
  refine wpAnyH_take (i := 3) (oi := ⟨some 14, _, _, _, _, _⟩) (v := ?_) rfl (by kernel_rfl) (by kernel_rfl) (by kernel_rfl) (fun _ _ _ h => h) (Or.inl ⟨by kernel_rfl, ?hy3⟩) (by assumption) ?_
  case hy3 => (intro w' hSw; (try dsimp only at hSw); go_simp; try with_reducible rfl)
  simp only [Act.put, List.setIfInBounds_toArray, List.set_cons_zero, List.set_cons_succ]
  refine wpAnyH_take (i := 4) (oi := ⟨some 15, _, _, _, _, _⟩) (v := ?_) rfl (by kernel_rfl) (by kernel_rfl) (by kernel_rfl) (fun _ _ _ h => h) (Or.inl ⟨by kernel_rfl, ?hy4⟩) (by assumption) ?_
  case hy4 => (intro w' hSw; (try dsimp only at hSw); go_simp; try with_reducible rfl)
  simp only [Act.put, List.setIfInBounds_toArray, List.set_cons_zero, List.set_cons_succ]
  refine wpAnyH_take (i := 5) (oi := ⟨some 16, _, _, _, _, _⟩) (v := ?_) rfl (by kernel_rfl) (by kernel_rfl) (by kernel_rfl) (fun _ _ _ h => h) (Or.inl ⟨by kernel_rfl, ?hy5⟩) (by assumption) ?_
  case hy5 => (intro w' hSw; (try dsimp only at hSw); go_simp; try with_reducible rfl)
  simp only [Act.put, List.setIfInBounds_toArray, List.set_cons_zero, List.set_cons_succ]
  refine wpAnyH_take (i := 7) (oi := ⟨some 18, _, _, _, _, _⟩) (v := ?_) rfl (by kernel_rfl) (by kernel_rfl) (by kernel_rfl) (fun _ _ _ h => h) (Or.inl ⟨by kernel_rfl, ?hy7⟩) (by assumption) ?_
  case hy7 => (intro w' hSw; (try dsimp only at hSw); go_simp; try with_reducible rfl)
  simp only [Act.put, List.setIfInBounds_toArray, List.set_cons_zero, List.set_cons_succ]
  refine wpAnyH_take (i := 8) (oi := ⟨some 19, _, _, _, _, _⟩) (v := ?_) rfl (by kernel_rfl) (by kernel_rfl) (by kernel_rfl) (fun _ _ _ h => h) (Or.inl ⟨by kernel_rfl, ?hy8⟩) (by assumption) ?_
  case hy8 => (intro w' hSw; (try dsimp only at hSw); go_simp; try with_reducible rfl)
  simp only [Act.put, List.setIfInBounds_toArray, List.set_cons_zero, List.set_cons_succ]
  refine wpAnyH_take (i := 10) (oi := ⟨some 21, _, _, _, _, _⟩) (v := ?_) rfl (by kernel_rfl) (by kernel_rfl) (by kernel_rfl) (fun _ _ _ h => h) (Or.inl ⟨by kernel_rfl, ?hy10⟩) (by assumption) ?_
  case hy10 => (intro w' hSw; (try dsimp only at hSw); go_simp; try with_reducible rfl)
  simp only [Act.put, List.setIfInBounds_toArray, List.set_cons_zero, List.set_cons_succ]
  refine wpAnyH_ready (rs := [6]) (by kernel_rfl) (by simp) ?_
  refine AllReadyH.cons (o := ⟨some 17, _, _, _, _, _⟩) rfl (fun K hK => ?_) AllReadyH.nil
  (rw [if_pos (by kernel_rfl)])
  go_simp
  refine (HOf4.out _ k1).mono ?_; rintro e y2 ⟨rfl, hb⟩; have HB2 := Lib.hid (HB1.out.trans (hb.mono HB1.out.size)); have k2 := BT.below k1 hb; clear hb
  refine hK.out _ _ k2 (fun hHeld => ?_)
  clear hK K
  refine wpAnyH_ready (rs := [9]) (by kernel_rfl) (by simp) ?_
  refine AllReadyH.cons (o := ⟨some 20, _, _, _, _, _⟩) rfl (fun K hK => ?_) AllReadyH.nil
  (rw [if_pos (by kernel_rfl)])
  go_simp
  refine (HAdd.out _ k2).mono ?_; rintro e y3 ⟨rfl, hb⟩; have HB3 := Lib.hid (HB2.out.trans (hb.mono HB2.out.size)); have k3 := BT.below k2 hb; clear hb
  refine hK.out _ _ k3 (fun hHeld => ?_)
  clear hK K
  refine wpAnyH_ready (rs := [11]) (by kernel_rfl) (by simp) ?_
  refine AllReadyH.cons (o := ⟨some 22, _, _, _, _, _⟩) rfl (fun K hK => ?_) AllReadyH.nil
  (rw [if_pos (by kernel_rfl)])
  go_simp
  refine (HOf9.out _ k3).mono ?_; rintro e y4 ⟨rfl, hb⟩; have HB4 := Lib.hid (HB3.out.trans (hb.mono HB3.out.size)); have k4 := BT.below k3 hb; clear hb
  refine hK.out _ _ k4 (fun hHeld => ?_)
  clear hK K
  refine wpAnyH_take (i := 12) (oi := ⟨some 23, _, _, _, _, _⟩) (v := ?_) rfl (by kernel_rfl) (by kernel_rfl) (by kernel_rfl) (fun _ _ _ h => h) (Or.inl ⟨by kernel_rfl, ?hy12⟩) (by assumption) ?_
  case hy12 => (intro w' hSw; (try dsimp only at hSw); go_simp; try with_reducible rfl)
  simp only [Act.put, List.setIfInBounds_toArray, List.set_cons_zero, List.set_cons_succ]
  refine wpAnyH_take (i := 13) (oi := ⟨some 24, _, _, _, _, _⟩) (v := ?_) rfl (by kernel_rfl) (by kernel_rfl) (by kernel_rfl) (fun _ _ _ h => h) (Or.inl ⟨by kernel_rfl, ?hy13⟩) (by assumption) ?_
  case hy13 => (intro w' hSw; (try dsimp only at hSw); go_simp; try with_reducible rfl)
  simp only [Act.put, List.setIfInBounds_toArray, List.set_cons_zero, List.set_cons_succ]
  refine wpAnyH_take (i := 14) (oi := ⟨some 25, _, _, _, _, _⟩) (v := ?_) rfl (by kernel_rfl) (by kernel_rfl) (by kernel_rfl) (fun _ _ _ h => h) (Or.inl ⟨by kernel_rfl, ?hy14⟩) (by assumption) ?_
  case hy14 => (intro w' hSw; (try dsimp only at hSw); go_simp; try with_reducible rfl)
  simp only [Act.put, List.setIfInBounds_toArray, List.set_cons_zero, List.set_cons_succ]
  refine wpAnyH_take (i := 15) (oi := ⟨some 26, _, _, _, _, _⟩) (v := ?_) rfl (by kernel_rfl) (by kernel_rfl) (by kernel_rfl) (fun _ _ _ h => h) (Or.inl ⟨by kernel_rfl, ?hy15⟩) (by assumption) ?_
  case hy15 => (intro w' hSw; (try dsimp only at hSw); go_simp; try with_reducible rfl)
  simp only [Act.put, List.setIfInBounds_toArray, List.set_cons_zero, List.set_cons_succ]
  refine wpAnyH_take (i := 18) (oi := ⟨some 29, _, _, _, _, _⟩) (v := ?_) rfl (by kernel_rfl) (by kernel_rfl) (by kernel_rfl) (fun _ _ _ h => h) (Or.inl ⟨by kernel_rfl, ?hy18⟩) (by assumption) ?_
  case hy18 => (intro w' hSw; (try dsimp only at hSw); go_simp; try with_reducible rfl)
  simp only [Act.put, List.setIfInBounds_toArray, List.set_cons_zero, List.set_cons_succ]
  refine wpAnyH_ready (rs := [16]) (by kernel_rfl) (by simp) ?_
  refine AllReadyH.cons (o := ⟨some 27, _, _, _, _, _⟩) rfl (fun K hK => ?_) AllReadyH.nil
  (rw [if_pos (by kernel_rfl)])
  go_simp
  refine (HOf9.out _ k4).mono ?_; rintro e y5 ⟨rfl, hb⟩; have HB5 := Lib.hid (HB4.out.trans (hb.mono HB4.out.size)); have k5 := BT.below k4 hb; clear hb
  refine hK.out _ _ k5 (fun hHeld => ?_)
  clear hK K
  refine wpAnyH_ready (rs := [17]) (by kernel_rfl) (by simp) ?_
  refine AllReadyH.cons (o := ⟨some 28, _, _, _, _, _⟩) rfl (fun K hK => ?_) AllReadyH.nil
  (rw [if_pos (by kernel_rfl)])
  go_simp
  refine (HBy.out _).mono ?_; rintro e y6 ⟨rfl, hb⟩; have HB6 := Lib.hid (HB5.out.trans (hb.mono HB5.out.size)); have k6 := BT.below k5 hb; clear hb
  refine hK.out _ _ k6 (fun hHeld => ?_)
  clear hK K
  refine wpAnyH_take (i := 19) (oi := ⟨some 30, _, _, _, _, _⟩) (v := ?_) rfl (by kernel_rfl) (by kernel_rfl) (by kernel_rfl) (fun _ _ _ h => h) (Or.inl ⟨by kernel_rfl, ?hy19⟩) (by assumption) ?_
  case hy19 => (intro w' hSw; (try dsimp only at hSw); go_simp; try with_reducible rfl)
  simp only [Act.put, List.setIfInBounds_toArray, List.set_cons_zero, List.set_cons_succ]
  refine wpAnyH_take (i := 20) (oi := ⟨some 31, _, _, _, _, _⟩) (v := ?_) rfl (by kernel_rfl) (by kernel_rfl) (by kernel_rfl) (fun _ _ _ h => h) (Or.inl ⟨by kernel_rfl, ?hy20⟩) (by assumption) ?_
  case hy20 => (intro w' hSw; (try dsimp only at hSw); go_simp; try with_reducible rfl)
  simp only [Act.put, List.setIfInBounds_toArray, List.set_cons_zero, List.set_cons_succ]
  refine wpAnyH_take (i := 21) (oi := ⟨some 32, _, _, _, _, _⟩) (v := ?_) rfl (by kernel_rfl) (by kernel_rfl) (by kernel_rfl) (fun _ _ _ h => h) (Or.inl ⟨by kernel_rfl, ?hy21⟩) (by assumption) ?_
  case hy21 => (intro w' hSw; (try dsimp only at hSw); go_simp; try with_reducible rfl)
  simp only [Act.put, List.setIfInBounds_toArray, List.set_cons_zero, List.set_cons_succ]
  refine wpAnyH_take (i := 22) (oi := ⟨some 33, _, _, _, _, _⟩) (v := ?_) rfl (by kernel_rfl) (by kernel_rfl) (by kernel_rfl) (fun _ _ _ h => h) (Or.inl ⟨by kernel_rfl, ?hy22⟩) (by assumption) ?_
  case hy22 => (intro w' hSw; (try dsimp only at hSw); go_simp; try with_reducible rfl)
  simp only [Act.put, List.setIfInBounds_toArray, List.set_cons_zero, List.set_cons_succ]
  refine wpAnyH_take (i := 23) (oi := ⟨some 34, _, _, _, _, _⟩) (v := ?_) rfl (by kernel_rfl) (by kernel_rfl) (by kernel_rfl) (fun _ _ _ h => h) (Or.inl ⟨by kernel_rfl, ?hy23⟩) (by assumption) ?_
  case hy23 => (intro w' hSw; (try dsimp only at hSw); go_simp; try with_reducible rfl)
  simp only [Act.put, List.setIfInBounds_toArray, List.set_cons_zero, List.set_cons_succ]
  refine wpAnyH_ready (rs := [24]) (by kernel_rfl) (by simp) ?_
  refine AllReadyH.cons (o := ⟨some 35, _, _, _, _, _⟩) rfl (fun K hK => ?_) AllReadyH.nil
  (rw [if_pos (by kernel_rfl)])
  go_simp
  refine (HOf9.out _ k6).mono ?_; rintro e y7 ⟨rfl, hb⟩; have HB7 := Lib.hid (HB6.out.trans (hb.mono HB6.out.size)); have k7 := BT.below k6 hb; clear hb
  refine hK.out _ _ k7 (fun hHeld => ?_)
  clear hK K
  refine wpAnyH_take (i := 25) (oi := ⟨some 36, _, _, _, _, _⟩) (v := ?_) rfl (by kernel_rfl) (by kernel_rfl) (by kernel_rfl) (fun _ _ _ h => h) (Or.inl ⟨by kernel_rfl, ?hy25⟩) (by assumption) ?_
  case hy25 => (intro w' hSw; (try dsimp only at hSw); go_simp; try with_reducible rfl)
  simp only [Act.put, List.setIfInBounds_toArray, List.set_cons_zero, List.set_cons_succ]
  refine wpAnyH_take (i := 26) (oi := ⟨some 37, _, _, _, _, _⟩) (v := ?_) rfl (by kernel_rfl) (by kernel_rfl) (by kernel_rfl) (fun _ _ _ h => h) (Or.inl ⟨by kernel_rfl, ?hy26⟩) (by assumption) ?_
  case hy26 => (intro w' hSw; (try dsimp only at hSw); go_simp; try with_reducible rfl)
  simp only [Act.put, List.setIfInBounds_toArray, List.set_cons_zero, List.set_cons_succ]
  refine wpAnyH_take (i := 27) (oi := ⟨some 38, _, _, _, _, _⟩) (v := ?_) rfl (by kernel_rfl) (by kernel_rfl) (by kernel_rfl) (fun _ _ _ h => h) (Or.inl ⟨by kernel_rfl, ?hy27⟩) (by assumption) ?_
  case hy27 => (intro w' hSw; (try dsimp only at hSw); go_simp; try with_reducible rfl)
  simp only [Act.put, List.setIfInBounds_toArray, List.set_cons_zero, List.set_cons_succ]
  refine wpAnyH_take (i := 28) (oi := ⟨some 39, _, _, _, _, _⟩) (v := ?_) rfl (by kernel_rfl) (by kernel_rfl) (by kernel_rfl) (fun _ _ _ h => h) (Or.inl ⟨by kernel_rfl, ?hy28⟩) (by assumption) ?_
  case hy28 => (intro w' hSw; (try dsimp only at hSw); go_simp; try with_reducible rfl)
  simp only [Act.put, List.setIfInBounds_toArray, List.set_cons_zero, List.set_cons_succ]
  refine wpAnyH_take (i := 29) (oi := ⟨some 40, _, _, _, _, _⟩) (v := ?_) rfl (by kernel_rfl) (by kernel_rfl) (by kernel_rfl) (fun _ _ _ h => h) (Or.inl ⟨by kernel_rfl, ?hy29⟩) (by assumption) ?_
  case hy29 => (intro w' hSw; (try dsimp only at hSw); go_simp; try with_reducible rfl)
  simp only [Act.put, List.setIfInBounds_toArray, List.set_cons_zero, List.set_cons_succ]
  refine wpAnyH_take (i := 30) (oi := ⟨some 41, _, _, _, _, _⟩) (v := ?_) rfl (by kernel_rfl) (by kernel_rfl) (by kernel_rfl) (fun _ _ _ h => h) (Or.inl ⟨by kernel_rfl, ?hy30⟩) (by assumption) ?_
  case hy30 => (intro w' hSw; (try dsimp only at hSw); go_simp; try with_reducible rfl)
  simp only [Act.put, List.setIfInBounds_toArray, List.set_cons_zero, List.set_cons_succ]
  refine wpAnyH_take (i := 31) (oi := ⟨some 42, _, _, _, _, _⟩) (v := ?_) rfl (by kernel_rfl) (by kernel_rfl) (by kernel_rfl) (fun _ _ _ h => h) (Or.inl ⟨by kernel_rfl, ?hy31⟩) (by assumption) ?_
  case hy31 => (intro w' hSw; (try dsimp only at hSw); go_simp; try with_reducible rfl)
  simp only [Act.put, List.setIfInBounds_toArray, List.set_cons_zero, List.set_cons_succ]
  refine wpAnyH_take (i := 32) (oi := ⟨some 43, _, _, _, _, _⟩) (v := ?_) rfl (by kernel_rfl) (by kernel_rfl) (by kernel_rfl) (fun _ _ _ h => h) (Or.inl ⟨by kernel_rfl, ?hy32⟩) (by assumption) ?_
  case hy32 => (intro w' hSw; (try dsimp only at hSw); go_simp; try with_reducible rfl)
  simp only [Act.put, List.setIfInBounds_toArray, List.set_cons_zero, List.set_cons_succ]
  refine wpAnyH_take (i := 34) (oi := ⟨some 45, _, _, _, _, _⟩) (v := ?_) rfl (by kernel_rfl) (by kernel_rfl) (by kernel_rfl) (fun _ _ _ h => h) (Or.inl ⟨by kernel_rfl, ?hy34⟩) (by assumption) ?_
  case hy34 => (intro w' hSw; (try dsimp only at hSw); go_simp; try with_reducible rfl)
  simp only [Act.put, List.setIfInBounds_toArray, List.set_cons_zero, List.set_cons_succ]
  refine wpAnyH_take (i := 35) (oi := ⟨some 46, _, _, _, _, _⟩) (v := ?_) rfl (by kernel_rfl) (by kernel_rfl) (by kernel_rfl) (fun _ _ _ h => h) (Or.inl ⟨by kernel_rfl, ?hy35⟩) (by assumption) ?_
  case hy35 => (intro w' hSw; (try dsimp only at hSw); go_simp; try with_reducible rfl)
  simp only [Act.put, List.setIfInBounds_toArray, List.set_cons_zero, List.set_cons_succ]
  refine wpAnyH_take (i := 38) (oi := ⟨some 49, _, _, _, _, _⟩) (v := ?_) rfl (by kernel_rfl) (by kernel_rfl) (by kernel_rfl) (fun _ _ _ h => h) (Or.inl ⟨by kernel_rfl, ?hy38⟩) (by assumption) ?_
  case hy38 => (intro w' hSw; (try dsimp only at hSw); go_simp; try with_reducible rfl)
  simp only [Act.put, List.setIfInBounds_toArray, List.set_cons_zero, List.set_cons_succ]
  refine wpAnyH_ready (rs := [33]) (by kernel_rfl) (by simp) ?_
  refine AllReadyH.cons (o := ⟨some 44, _, _, _, _, _⟩) rfl (fun K hK => ?_) AllReadyH.nil
  (rw [if_pos (by kernel_rfl)])
  go_simp
  refine (HOf4.out _ k7).mono ?_; rintro e y8 ⟨rfl, hb⟩; have HB8 := Lib.hid (HB7.out.trans (hb.mono HB7.out.size)); have k8 := BT.below k7 hb; clear hb
  refine hK.out _ _ k8 (fun hHeld => ?_)
  clear hK K
  refine wpAnyH_ready (rs := [36]) (by kernel_rfl) (by simp) ?_
  refine AllReadyH.cons (o := ⟨some 47, _, _, _, _, _⟩) rfl (fun K hK => ?_) AllReadyH.nil
  (rw [if_pos (by kernel_rfl)])
  go_simp
  refine (HOf5.out _ k8).mono ?_; rintro e y9 ⟨rfl, hb⟩; have HB9 := Lib.hid (HB8.out.trans (hb.mono HB8.out.size)); have k9 := BT.below k8 hb; clear hb
  refine hK.out _ _ k9 (fun hHeld => ?_)
  clear hK K
  refine wpAnyH_ready (rs := [37]) (by kernel_rfl) (by simp) ?_
  refine AllReadyH.cons (o := ⟨some 48, _, _, _, _, _⟩) rfl (fun K hK => ?_) AllReadyH.nil
  (rw [if_pos (by kernel_rfl)])
  go_simp
  refine (HJoin.out _ k9).mono ?_; rintro e y10 ⟨rfl, hb⟩; have HB10 := Lib.hid (HB9.out.trans (hb.mono HB9.out.size)); have k10 := BT.below k9 hb; clear hb
  refine hK.out _ _ k10 (fun hHeld => ?_)
  clear hK K
  refine wpAnyH_ready (rs := [39]) (by kernel_rfl) (by simp) ?_
  refine AllReadyH.cons (o := ⟨some 50, _, _, _, _, _⟩) rfl (fun K hK => ?_) AllReadyH.nil
  (rw [if_pos (by kernel_rfl)])
  go_simp
  refine (HOf9.out _ k10).mono ?_; rintro e y11 ⟨rfl, hb⟩; have HB11 := Lib.hid (HB10.out.trans (hb.mono HB10.out.size)); have k11 := BT.below k10 hb; clear hb
  refine hK.out _ _ k11 (fun hHeld => ?_)
  clear hK K
  refine wpAnyH_take (i := 40) (oi := ⟨some 51, _, _, _, _, _⟩) (v := ?_) rfl (by kernel_rfl) (by kernel_rfl) (by kernel_rfl) (fun _ _ _ h => h) (Or.inl ⟨by kernel_rfl, ?hy40⟩) (by assumption) ?_
  case hy40 => (intro w' hSw; (try dsimp only at hSw); go_simp; try with_reducible rfl)
  simp only [Act.put, List.setIfInBounds_toArray, List.set_cons_zero, List.set_cons_succ]
  refine wpAnyH_take (i := 41) (oi := ⟨some 52, _, _, _, _, _⟩) (v := ?_) rfl (by kernel_rfl) (by kernel_rfl) (by kernel_rfl) (fun _ _ _ h => h) (Or.inl ⟨by kernel_rfl, ?hy41⟩) (by assumption) ?_
  case hy41 => (intro w' hSw; (try dsimp only at hSw); go_simp; try with_reducible rfl)
  simp only [Act.put, List.setIfInBounds_toArray, List.set_cons_zero, List.set_cons_succ]
  refine wpAnyH_take (i := 42) (oi := ⟨some 53, _, _, _, _, _⟩) (v := ?_) rfl (by kernel_rfl) (by kernel_rfl) (by kernel_rfl) (fun _ _ _ h => h) (Or.inl ⟨by kernel_rfl, ?hy42⟩) (by assumption) ?_
  case hy42 => (intro w' hSw; (try dsimp only at hSw); go_simp; try with_reducible rfl)
  simp only [Act.put, List.setIfInBounds_toArray, List.set_cons_zero, List.set_cons_succ]
  refine wpAnyH_ready (rs := [43]) (by kernel_rfl) (by simp) ?_
  refine AllReadyH.cons (o := ⟨some 54, _, _, _, _, _⟩) rfl (fun K hK => ?_) AllReadyH.nil
  (rw [if_pos (by kernel_rfl)])
  go_simp
  refine (HSh.out _ k11).mono ?_; rintro e y12 ⟨rfl, hb⟩; have HB12 := Lib.hid (HB11.out.trans (hb.mono HB11.out.size)); have k12 := BT.below k11 hb; clear hb
  refine hK.out _ _ k12 (fun hHeld => ?_)
  clear hK K
  refine wpAnyH_take (i := 44) (oi := ⟨some 55, _, _, _, _, _⟩) (v := ?_) rfl (by kernel_rfl) (by kernel_rfl) (by kernel_rfl) (fun _ _ _ h => h) (Or.inl ⟨by kernel_rfl, ?hy44⟩) (by assumption) ?_
  case hy44 => (intro w' hSw; (try dsimp only at hSw); go_simp; try with_reducible rfl)
  simp only [Act.put, List.setIfInBounds_toArray, List.set_cons_zero, List.set_cons_succ]
  refine wpAnyH_take (i := 45) (oi := ⟨some 56, _, _, _, _, _⟩) (v := ?_) rfl (by kernel_rfl) (by kernel_rfl) (by kernel_rfl) (fun _ _ _ h => h) (Or.inl ⟨by kernel_rfl, ?hy45⟩) (by assumption) ?_
  case hy45 => (intro w' hSw; (try dsimp only at hSw); go_simp; try with_reducible rfl)
  simp only [Act.put, List.setIfInBounds_toArray, List.set_cons_zero, List.set_cons_succ]
  refine wpAnyH_take (i := 46) (oi := ⟨some 57, _, _, _, _, _⟩) (v := ?_) rfl (by kernel_rfl) (by kernel_rfl) (by kernel_rfl) (fun _ _ _ h => h) (Or.inl ⟨by kernel_rfl, ?hy46⟩) (by assumption) ?_
  case hy46 => (intro w' hSw; (try dsimp only at hSw); go_simp; try with_reducible rfl)
  simp only [Act.put, List.setIfInBounds_toArray, List.set_cons_zero, List.set_cons_succ]
  refine wpAnyH_ready (rs := [47]) (by kernel_rfl) (by simp) ?_
  refine AllReadyH.cons (o := ⟨some 58, _, _, _, _, _⟩) rfl (fun K hK => ?_) AllReadyH.nil
  (rw [if_pos (by kernel_rfl)])
  go_simp
  refine (HNil.out _ k12).mono ?_; rintro e y13 ⟨rfl, hb⟩; have HB13 := Lib.hid (HB12.out.trans (hb.mono HB12.out.size)); have k13 := BT.below k12 hb; clear hb
  refine hK.out _ _ k13 (fun hHeld => ?_)
  clear hK K
  refine wpAnyH_take (i := 48) (oi := ⟨some 59, _, _, _, _, _⟩) (v := ?_) rfl (by kernel_rfl) (by kernel_rfl) (by kernel_rfl) (fun _ _ _ h => h) (Or.inl ⟨by kernel_rfl, ?hy48⟩) (by assumption) ?_
  case hy48 => (intro w' hSw; (try dsimp only at hSw); go_simp; try with_reducible rfl)
  simp only [Act.put, List.setIfInBounds_toArray, List.set_cons_zero, List.set_cons_succ]
  refine wpAnyH_take (i := 49) (oi := ⟨some 60, _, _, _, _, _⟩) (v := ?_) rfl (by kernel_rfl) (by kernel_rfl) (by kernel_rfl) (fun _ _ _ h => h) (Or.inl ⟨by kernel_rfl, ?hy49⟩) (by assumption) ?_
  case hy49 => (intro w' hSw; (try dsimp only at hSw); go_simp; try with_reducible rfl)
  simp only [Act.put, List.setIfInBounds_toArray, List.set_cons_zero, List.set_cons_succ]
  refine wpAnyH_take (i := 50) (oi := ⟨some 0, _, _, _, _, _⟩) (v := ?_) rfl (by kernel_rfl) (by kernel_rfl) (by kernel_rfl) (fun _ _ _ h => h) (Or.inl ⟨by kernel_rfl, ?hy50⟩) (by assumption) ?_
  case hy50 => (intro w' hSw; (try dsimp only at hSw); go_simp; try with_reducible rfl)
  simp only [Act.put, List.setIfInBounds_toArray, List.set_cons_zero]
  refine wpAnyH_done (by kernel_rfl) ?_ _
  go_wp2_with fail
  go_ret
  exact ⟨rfl, HB13.out⟩
end Go.Proofs.YtonjlkakbboplaaDoor
