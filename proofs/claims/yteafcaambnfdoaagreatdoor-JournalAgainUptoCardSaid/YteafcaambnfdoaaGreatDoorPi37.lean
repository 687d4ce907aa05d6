/-
  Layer 7 and what it stands on, part 37 (JnUnpack).
-/
import Derived.Test.YteafcaambnfdoaaGreatDoorPi31
import Derived.Test.YteafcaambnfdoaaGreatDoorPi34
import Derived.Test.YteafcaambnfdoaaGreatDoorPi35
import Derived.BigRegion
namespace Go.Proofs.YteafcaambnfdoaaGreatDoor
section
open Go Go.RowKit
open Go.Lib (hid)
set_option maxRecDepth 100000
theorem sizeEn12j (w : World) : (sizeOf 56).run Tryz.prog w = .ok 3 w := Tryz.sizeOf56 w
theorem i64_or_nat (a b : Nat) (ha : a < 9223372036854775808) (hb : b < 9223372036854775808) : bits .or .i64 (a : Int) (b : Int) = ((a ||| b : Nat) : Int) := by
 have h1 : (BitVec.ofInt 64 (a : Int)).toNat = a := by rw [BitVec.toNat_ofInt]; omega
 have h2 : (BitVec.ofInt 64 (b : Int)).toNat = b := by rw [BitVec.toNat_ofInt]; omega
 have h3 : a ||| b < 2 ^ 63 := Nat.or_lt_two_pow ha hb
 show IntKind.i64.wrap ((BitVec.ofInt 64 (a : Int) ||| BitVec.ofInt 64 (b : Int)).toNat : Nat) = _
 rw [BitVec.toNat_or, h1, h2]
 exact IntWalk.i64_in _ (by omega)
theorem i64_or_add (a b k : Nat) (ha : a < 2 ^ k) (hb : a + 2 ^ k * b < 9223372036854775808) : bits .or .i64 (a : Int) ((b : Int) * ((2 ^ k : Nat) : Int)) = ((a + 2 ^ k * b : Nat) : Int) := by
 have e1 : (b : Int) * ((2 ^ k : Nat) : Int) = ((2 ^ k * b : Nat) : Int) := by rw [Int.natCast_mul, Int.mul_comm]
 rw [e1, i64_or_nat _ _ (by omega) (by omega), Nat.or_comm, ← Nat.two_pow_add_eq_or_of_lt ha, Nat.add_comm]
theorem readP_time (p : List UInt8) : readP p 5 = timeN p := by
 unfold readP readP readP readP readP readP timeN
 simp only [Nat.mul_zero, Nat.pow_zero, Nat.zero_add]
 have e1 : (2 : Nat) ^ (8 * 1) = 256 := rfl
 have e2 : (2 : Nat) ^ (8 * 2) = 65536 := rfl
 have e3 : (2 : Nat) ^ (8 * 3) = 16777216 := rfl
 have e4 : (2 : Nat) ^ (8 * 4) = 4294967296 := rfl
 rw [e1, e2, e3, e4]
 omega
theorem readP_o (p : List UInt8) (k : Nat) (hk : k < 5) : bits .or .i64 (readP p k : Int) (((p.getD k 0).toNat : Int) * 2 ^ (8 * k)) = (readP p (k + 1) : Int) ∧ wrap64 (((p.getD k 0).toNat : Int) * 2 ^ (8 * k)) = ((p.getD k 0).toNat : Int) * 2 ^ (8 * k) := by
 have h1 := readP_lt p k
 have h2 := readP_lt p (k + 1)
 have h3 : 2 ^ (8 * (k + 1)) ≤ 2 ^ 40 := Nat.pow_le_pow_right (by decide) (by omega)
 have h4 : readP p (k + 1) = readP p k + 2 ^ (8 * k) * (p.getD k 0).toNat := rfl
 have h5 := i64_or_add (readP p k) (p.getD k 0).toNat (8 * k) h1 (by omega)
 rw [← h4] at h5
 have e1 : ((p.getD k 0).toNat : Int) * ((2 ^ (8 * k) : Nat) : Int) = ((2 ^ (8 * k) * (p.getD k 0).toNat : Nat) : Int) := by rw [Int.natCast_mul, Int.mul_comm]
 have e2 : ((2 ^ (8 * k) : Nat) : Int) = (2 : Int) ^ (8 * k) := by simp
 rw [← e2]
 refine ⟨h5, ?_⟩
 rw [e1]
 unfold wrap64
 generalize 2 ^ (8 * k) * (p.getD k 0).toNat = z at *
 omega
set_option maxHeartbeats 8000000 in
theorem junpack12_calls (A : Option Addr) (c : Nat) (p : List UInt8) (w : World) (hb : Byt w A p) (hc : p.length ≤ c) (hl : p.length ≤ 100000) :
  Calls Tryz.prog 88 #[.slice A p.length c] w fun x w' => x = .returned (.tuple #[.agg (enC ((unpackJ p).getD EnJ.none_)).toArray, .bool (unpackJ p).isSome]) ∧ Below w.heap.size w w' := by
 have hbw := (Below.refl _ w).alloc (Nat.le_refl _) (.cells ([.int .i64 0, .string ⟨#[]⟩, .string ⟨#[]⟩] : List Value).toArray 56)
 have hz := BxA.new w 56 ([.int .i64 0, .string ⟨#[]⟩, .string ⟨#[]⟩] : List Value)
 have hsz : (w.alloc (.cells ([.int .i64 0, .string ⟨#[]⟩, .string ⟨#[]⟩] : List Value).toArray 56)).heap.size = w.heap.size + 1 := World.size_alloc _ _
 have hbb := hb.below hbw
 go_enter Tryz.func88, Tryz.ntmps88
 obtain ⟨W, hW⟩ : ∃ W, w.alloc (.cells ([.int .i64 0, .string ⟨#[]⟩, .string ⟨#[]⟩] : List Value).toArray 56) = W := ⟨_, rfl⟩
 rw [hW] at hbw hz hsz hbb
 have HB := hid hbw
 have HZ := hid hz
 have HSz := hid hsz
 have HBy := hid hbb
 clear hb hbw hz hsz hbb
 by_cases h6 : p.length < 6
 ·have q1 : decide ((p.length : Int) < 6) = true := decide_eq_true (by omega)
  have HR : Hid (unpackJ p = none) := hid (by unfold unpackJ; rw [if_neg (fun h => by have := h.1; omega)])
  have z0 := (HZ.out).c 0 rfl
  have z1 := (HZ.out).c 1 rfl
  have z2 := (HZ.out).c 2 rfl
  have f0 := (HZ.out).free 0
  have f1 := (HZ.out).free 1
  have f2 := (HZ.out).free 2
  go_wp2_with fail
  refine bodyPost_ret (results_en2 rfl _ _ w.heap.size _ _ _ _ 56 rfl rfl (((HZ.out.set 0 (.int .i64 0)).set 1 (.string ⟨#[]⟩)).set 2 (.string ⟨#[]⟩)) Tryz.underlying56 (sizeEn12j _)) rfl ?_
  exact ⟨by rw [HR.out]; rfl, ((HB.out.setCell (p := ⟨w.heap.size, 0, none⟩) (Nat.le_refl _) _).setCell (p := ⟨w.heap.size, 1, none⟩) (Nat.le_refl _) _).setCell (p := ⟨w.heap.size, 2, none⟩) (Nat.le_refl _) _⟩
 ·have q1 : decide ((p.length : Int) < 6) = false := decide_eq_false (by omega)
  obtain ⟨g, o, rfl, hg, hcell⟩ := HBy.out.at_ (by omega)
  have c5 := hcell 5 (by omega)
  obtain ⟨u, hu⟩ : ∃ u, u = p.getD 5 0 := ⟨_, rfl⟩
  rw [← hu] at c5
  have hu8 := u.toNat_lt
  have hsub : IntKind.i64.wrap ((p.length : Int) - 6) = (p.length : Int) - 6 := IntWalk.i64_in _ (by omega)
  have h5l : (5 : Int) < (p.length : Int) := by omega
  by_cases h7 : p.length < 6 + u.toNat
  ·have q2 : decide ((p.length : Int) - 6 < (u.toNat : Int)) = true := decide_eq_true (by omega)
   have HR : Hid (unpackJ p = none) := hid (by unfold unpackJ; rw [if_neg (fun h => by have := h.2.1; rw [← hu] at this; omega)])
   clear hu hcell
   have z0 := (HZ.out).c 0 rfl
   have z1 := (HZ.out).c 1 rfl
   have z2 := (HZ.out).c 2 rfl
   have f0 := (HZ.out).free 0
   have f1 := (HZ.out).free 1
   have f2 := (HZ.out).free 2
   go_wp2_with fail
   refine bodyPost_ret (results_en2 rfl _ _ w.heap.size _ _ _ _ 56 rfl rfl (((HZ.out.set 0 (.int .i64 0)).set 1 (.string ⟨#[]⟩)).set 2 (.string ⟨#[]⟩)) Tryz.underlying56 (sizeEn12j _)) rfl ?_
   exact ⟨by rw [HR.out]; rfl, ((HB.out.setCell (p := ⟨w.heap.size, 0, none⟩) (Nat.le_refl _) _).setCell (p := ⟨w.heap.size, 1, none⟩) (Nat.le_refl _) _).setCell (p := ⟨w.heap.size, 2, none⟩) (Nat.le_refl _) _⟩
  have q2 : decide ((p.length : Int) - 6 < (u.toNat : Int)) = false := decide_eq_false (by omega)
  have HCell := hid hcell
  have hc6 : 6 + u.toNat ≤ c := by omega
  have hrun1 := run_load (some ⟨g, o, none⟩) p.length c u.toNat hc6
  have hrun2 := run_cut (some ⟨g, o, none⟩) c p (6 + u.toNat) (by omega)
  rw [show ((6 + u.toNat : Nat) : Int) = 6 + (u.toNat : Int) by omega] at hrun2
  have hl1 : ((p.drop 6).take u.toNat).length = u.toNat := by rw [List.length_take, List.length_drop]; omega
  have HC1 : Hid (∀ y, Byt y (some ⟨g, o, none⟩) p → (convert 30 9 (.slice (dropA (some ⟨g, o, none⟩) c 6) u.toNat (c - 6))).run Tryz.prog y = .ok (.string (bs ((p.drop 6).take u.toNat))) y) := hid (fun y hy => by
   have := conv_strE ((hy.drop c 6 hc).take u.toNat) (c - 6)
   rwa [hl1] at this)
  have HC2 : Hid (∀ y, Byt y (some ⟨g, o, none⟩) p → (convert 30 9 (.slice (dropA (some ⟨g, o, none⟩) c (6 + u.toNat)) (p.drop (6 + u.toNat)).length (c - (6 + u.toNat)))).run Tryz.prog y = .ok (.string (bs (p.drop (6 + u.toNat)))) y) := hid (fun y hy => conv_strE (hy.drop c (6 + u.toNat) hc) (c - (6 + u.toNat)))
  have HE : Hid (unpackJ p = if rightJ ⟨(timeN p : Int), (p.drop 6).take u.toNat, p.drop (6 + u.toNat)⟩ then some ⟨(timeN p : Int), (p.drop 6).take u.toNat, p.drop (6 + u.toNat)⟩ else none) := hid (by
   unfold unpackJ readJ
   rw [← hu]
   by_cases hr : rightJ ⟨(timeN p : Int), (p.drop 6).take u.toNat, p.drop (6 + u.toNat)⟩
   ·rw [if_pos ⟨by omega, by omega, hr⟩, if_pos hr]
   ·rw [if_neg (fun h => hr h.2.2), if_neg hr])
  have HRi := hid (fun y => jright12_calls ⟨(timeN p : Int), (p.drop 6).take u.toNat, p.drop (6 + u.toNat)⟩ y)
  clear hcell hu hl1
  have hwr5 : IntKind.i64.wrap (6 + (u.toNat : Int)) = 6 + (u.toNat : Int) := IntWalk.i64_in _ (by omega)
  obtain ⟨d, hd⟩ : ∃ d, d = (p.drop 6).take u.toNat := ⟨_, rfl⟩
  obtain ⟨c', hc'⟩ : ∃ c', c' = p.drop (6 + u.toNat) := ⟨_, rfl⟩
  rw [← hd] at HC1 HE HRi
  rw [← hc'] at HC2 HE HRi hrun2
  clear hd hc'
  have hb0 := (Below.refl W.heap.size W).drew
  have hb1 : Below W.heap.size W (W.alloc (.cells #[.int .i64 0, .string ⟨#[]⟩, .string ⟨#[]⟩] 56)).drew := ((Below.refl W.heap.size W).alloc (Nat.le_refl _) _).drew
  have e1 := HC1.out W.drew (HBy.out.below hb0)
  have e2 := HC2.out W.drew (HBy.out.below hb0)
  have e3 := HC1.out _ (HBy.out.below hb1)
  have e4 := HC2.out _ (HBy.out.below hb1)
  have hwu : IntKind.i64.wrap (u.toNat : Int) = (u.toNat : Int) := IntWalk.i64_in _ (by omega)
  clear hb0 hb1
  go_upto_region 4 with fail
  go_cut [5] from 26 (fun v5 wx => v5 = .pointer (some ⟨W.heap.size, 0, none⟩) ∧ wx = (W.alloc (.cells #[.int .i64 0, .string (bs d), .string (bs c')] 56)).drew)
  case first =>
   go_region
   all_goals (go_wp2_with fail; go_meet; exact ⟨rfl, rfl⟩)
  case rest =>
  obtain ⟨rfl, rfl⟩ := hcut
  obtain ⟨Y, hY⟩ : ∃ Y, (W.alloc (.cells #[.int .i64 0, .string (bs d), .string (bs c')] 56)).drew = Y := ⟨_, rfl⟩
  have hbY : Below W.heap.size W Y := by rw [← hY]; exact ((Below.refl W.heap.size W).alloc (Nat.le_refl _) _).drew
  have hxY : BxA Y W.heap.size 56 [.int .i64 0, .string (bs d), .string (bs c')] := by rw [← hY]; exact (BxA.new W 56 [.int .i64 0, .string (bs d), .string (bs c')]).below (Below.refl _ _).drew
  rw [hY]
  have HBY := hid hbY
  have HXY := hid hxY
  clear e1 e2 e3 e4 hY hbY hxY hrun1 hrun2 hwr5 hwu
  go_wp2_with fail
  go_loopw [35] (fun v35 wr => ∃ k : Nat, k ≤ 5 ∧ v35 = .int .i64 (k : Int) ∧ Hid (BxA wr W.heap.size 56 [.int .i64 (readP p k : Int), .string (bs d), .string (bs c')]) ∧ Hid (Below W.heap.size W wr)) (fun v35 _ => 5 - (intOf v35).toNat)
  case atStart => exact ⟨0, by omega, rfl, HXY, HBY⟩
  case round =>
   obtain ⟨k, hk, rfl, HXk, HBk⟩ := hrel
   by_cases hlt : k < 5
   ·have hkl : (k : Int) < 5 := by omega
    have hkp : (k : Int) < (p.length : Int) := by omega
    have x0 := HXk.out.c 0 rfl
    have x1 := HXk.out.c 1 rfl
    have x2 := HXk.out.c 2 rfl
    have f0 := HXk.out.free 0
    have f1 := HXk.out.free 1
    have f2 := HXk.out.free 2
    have ck : wr.cell? ⟨g, o + k, none⟩ = some (.int .u8 ((p.getD k 0).toNat : Int)) := by
     obtain ⟨g', o', e, _, hh⟩ := (HBy.out.below HBk.out).at_ (by omega)
     injection e with e
     injection e with e1 e2
     subst e1 e2
     exact hh k (by omega)
    have HOr := hid (readP_o p k hlt).1
    have hwm := (readP_o p k hlt).2
    obtain ⟨q', hq'⟩ : ∃ q', q' = readP p (k + 1) := ⟨_, rfl⟩
    have HQ' := hid hq'
    rw [← hq'] at HOr
    clear hq'
    have hx8 := (p.getD k 0).toNat_lt
    have hwx : IntKind.i64.wrap ((p.getD k 0).toNat : Int) = ((p.getD k 0).toNat : Int) := IntWalk.i64_in _ (by omega)
    have hsh : IntKind.i64.wrap (8 * (k : Int)) = 8 * (k : Int) := IntWalk.i64_in _ (by omega)
    generalize readP p k = q at *
    generalize (p.getD k 0).toNat = x at *
    have HXn : Hid (BxA (wr.setCell ⟨W.heap.size, 0, none⟩ (.int .i64 (q' : Int))) W.heap.size 56 [.int .i64 (q' : Int), .string (bs d), .string (bs c')]) := hid (HXk.out.set 0 _)
    have HBn : Hid (Below W.heap.size W (wr.setCell ⟨W.heap.size, 0, none⟩ (.int .i64 (q' : Int)))) := hid (HBk.out.setCell (p := ⟨W.heap.size, 0, none⟩) (Nat.le_refl _) _)
    go_wp2_with fail
    go_region
    go_wp2_with fail
    go_roundw
    case rel =>
     rw [HOr.out]
     exact ⟨k + 1, by omega, by go_num, hid (by rw [← HQ'.out]; exact HXn.out.below (Below.refl _ _).drew), hid HBn.out.drew⟩
    case measure => simp [intOf]; omega
   ·obtain rfl : k = 5 := by omega
    rw [readP_time] at HXk
    generalize timeN p = T at *
    have x0 := HXk.out.c 0 rfl
    have x1 := HXk.out.c 1 rfl
    have x2 := HXk.out.c 2 rfl
    by_cases hr : rightJ ⟨(T : Int), d, c'⟩
    ·rw [if_pos hr] at HE
     have HRy := hid (HRi.out wr)
     rw [decide_eq_true hr] at HRy
     clear hr HRi
     go_wp2_with fail
     refine HRy.out.mono ?_
     rintro x w9 ⟨rfl, hb9⟩
     have HX9 := hid (HXk.out.below hb9)
     have HZ9 := hid ((HZ.out.below HBk.out).below hb9)
     have HB9 : Hid (Below w.heap.size w w9) := hid (HB.out.trans ((HBk.out.trans (hb9.mono HBk.out.size)).mono HB.out.size))
     clear x0 x1 x2 hb9 HRy
     have x0 := HX9.out.c 0 rfl
     have x1 := HX9.out.c 1 rfl
     have x2 := HX9.out.c 2 rfl
     have z0 := (HZ9.out).c 0 rfl
     have z1 := (HZ9.out).c 1 rfl
     have z2 := (HZ9.out).c 2 rfl
     have f0 := (HZ9.out).free 0
     have f1 := (HZ9.out).free 1
     have f2 := (HZ9.out).free 2
     go_wp2_with fail
     refine bodyPost_ret (results_en2 rfl _ _ w.heap.size _ _ _ _ 56 rfl rfl (((HZ9.out.set 0 (.int .i64 (T : Int))).set 1 (.string (bs d))).set 2 (.string (bs c'))) Tryz.underlying56 (sizeEn12j _)) rfl ?_
     exact ⟨by rw [HE.out]; rfl, ((HB9.out.setCell (p := ⟨w.heap.size, 0, none⟩) (Nat.le_refl _) _).setCell (p := ⟨w.heap.size, 1, none⟩) (Nat.le_refl _) _).setCell (p := ⟨w.heap.size, 2, none⟩) (Nat.le_refl _) _⟩
    ·rw [if_neg hr] at HE
     have HRy := hid (HRi.out wr)
     rw [decide_eq_false hr] at HRy
     clear hr HRi
     go_wp2_with fail
     refine HRy.out.mono ?_
     rintro x w9 ⟨rfl, hb9⟩
     have HZ9 := hid ((HZ.out.below HBk.out).below hb9)
     have HB9 : Hid (Below w.heap.size w w9) := hid (HB.out.trans ((HBk.out.trans (hb9.mono HBk.out.size)).mono HB.out.size))
     clear x0 x1 x2 hb9 HRy
     have z0 := (HZ9.out).c 0 rfl
     have z1 := (HZ9.out).c 1 rfl
     have z2 := (HZ9.out).c 2 rfl
     have f0 := (HZ9.out).free 0
     have f1 := (HZ9.out).free 1
     have f2 := (HZ9.out).free 2
     go_wp2_with fail
     refine bodyPost_ret (results_en2 rfl _ _ w.heap.size _ _ _ _ 56 rfl rfl (((HZ9.out.set 0 (.int .i64 0)).set 1 (.string ⟨#[]⟩)).set 2 (.string ⟨#[]⟩)) Tryz.underlying56 (sizeEn12j _)) rfl ?_
     exact ⟨by rw [HE.out]; rfl, ((HB9.out.setCell (p := ⟨w.heap.size, 0, none⟩) (Nat.le_refl _) _).setCell (p := ⟨w.heap.size, 1, none⟩) (Nat.le_refl _) _).setCell (p := ⟨w.heap.size, 2, none⟩) (Nat.le_refl _) _⟩
end
end Go.Proofs.YteafcaambnfdoaaGreatDoor
