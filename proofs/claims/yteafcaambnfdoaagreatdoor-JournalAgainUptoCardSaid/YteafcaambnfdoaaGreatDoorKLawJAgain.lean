/-
  The walk of JournalAgain (layer 12).
-/
import Derived.Test.YteafcaambnfdoaaGreatDoorPi48
namespace Go.Proofs.YteafcaambnfdoaaGreatDoor
open Go Go.RowKit
open Go.Lib (hid)
set_option maxRecDepth 100000
set_option maxHeartbeats 8000000 in
theorem lagain12_calls (A : Option Addr) (c : Nat) (xs : List OpH) (KA : Option Addr) (kc : Nat) (ks : List Bool) (w : World) (hR : RdO12 w A xs) (hs : ∀ x ∈ xs, OphSm x 1048576) (hl : xs.length ≤ 1048576) (hk : RowT boolC w (fun _ => True) KA ks) (ht : LaysR w) :
  Calls Tryz.prog 6 #[.slice A xs.length c, .slice KA ks.length kc] w fun x w' => x = .returned (.bool true) ∧ Below w.heap.size w w' := by
 have HFw := hid (few12_calls A c xs w hR hs hl)
 have HR := hid hR
 have HT := hid ht
 have HK := hid hk
 clear hR hs hl ht hk
 by_cases hf : xs.length ≤ 50 ∧ totH xs ≤ 6000
 ·rw [decide_eq_true hf] at HFw
  by_cases hks : 200 < ks.length
  ·have q1 : decide ((200 : Int) < (ks.length : Int)) = true := decide_eq_true (by omega)
   clear hf hks
   go_enter Tryz.func6, Tryz.ntmps6
   go_wp2_with fail
   refine HFw.out.mono ?_
   rintro e w1 ⟨rfl, hb1⟩
   have HB1 := hid hb1
   have HA := hid (jalive12_calls w1 (HT.out.on hb1))
   clear hb1 HFw
   go_wp2_with fail
   refine HA.out.mono ?_
   rintro e w2 ⟨rfl, hb2⟩
   have HB2 := hid (HB1.out.trans (hb2.mono HB1.out.size))
   clear hb2 HA
   go_wp2_with fail
   go_ret
   exact ⟨rfl, HB2.out⟩
  have q1 : decide ((200 : Int) < (ks.length : Int)) = false := decide_eq_false (by omega)
  have HKl : Hid (ks.length ≤ 200) := hid (by omega)
  clear hks
  have HFe := hid hf
  clear hf
  go_enter Tryz.func6, Tryz.ntmps6
  go_wp2_with fail
  refine HFw.out.mono ?_
  rintro e w1 ⟨rfl, hb1⟩
  have HB1 := hid hb1
  have HBg := hid (wbegin12_calls w1 (HT.out.on hb1))
  have HT1 := hid (HT.out.on hb1)
  have HR1 := hid (HR.out.below hb1)
  have HK1 := hid (HK.out.below hb1)
  clear hb1 HFw
  go_wp2_with fail
  refine HBg.out.mono ?_
  rintro e w2 ⟨wb, b, jb, X2, Y2, A2, n2, c2, rfl, hw2⟩
  have HW2 := hid hw2
  clear hw2 HBg
  go_wp2_with fail
  go_loopw [29] (fun v29 wr => ∃ (k jb : Nat) (X Y : Nat → Prop) (S : FS) (A n c : _), k ≤ xs.length ∧ v29 = .int .i64 (k : Int) ∧ Hid (WJ w1 wr X Y wb b jb S S A n c) ∧ Hid (S.At (lvH (xs.take k)))) (fun v29 _ => xs.length - (intOf v29).toNat)
  case atStart => exact ⟨0, jb, X2, Y2, FS.new, A2, n2, c2, Nat.zero_le _, rfl, HW2, hid FS.At.new⟩
  case round =>
   clear HW2
   obtain ⟨k, jb, X, Y, S, A2, n2, c2, hk, rfl, HW, HAt⟩ := hrel
   by_cases hlt : k < xs.length
   ·have hkk : (k : Int) < (xs.length : Int) := by omega
    have hk50 : (k : Int) + 1 ≤ 9223372036854775807 := by have := HFe.out.1; omega
    have hq : xs[k]? = some xs[k] := List.getElem?_eq_getElem hlt
    obtain ⟨g, o, rfl, hg, hcs, hin2⟩ := (HR1.out.below HW.out.wa.fx.bel).at_ hq
    have hin := HR1.out.all _ (List.getElem_mem hlt)
    have HIn := hid hin
    have HFa := hid (few_at HFe.out hq)
    have c0 := hcs 0 _ rfl
    have c1 := hcs 1 _ rfl
    have c2' := hcs 2 _ rfl
    have c3 := hcs 3 _ rfl
    have c4 := hcs 4 _ rfl
    have c5 := hcs 5 _ rfl
    have c6 := hcs 6 _ rfl
    have c7 := hcs 7 _ rfl
    rw [Nat.add_zero] at c0
    clear hcs hq hin hin2
    generalize xs[k] = x at *
    obtain ⟨xk, ⟨xt, xd, xc⟩, xl, xi, xb, xks, LA, lc, BA, bc, KA, kc⟩ := x
    simp only at c0 c1 c2' c3 c4 c5 c6 c7
    have HFb : Hid (xb.length ≤ 6000 ∧ xks.length ≤ 6000 ∧ xl.length ≤ 300 ∧ lvH (xs.take k) ≤ 2200 ∧ lvH (xs.take (k + 1)) ≤ 2200) := hid ⟨HFa.out.1, HFa.out.2.1, HFa.out.2.2.1, HFa.out.2.2.2.1, HFa.out.2.2.2.2.1⟩
    have hbA := (Below.refl _ wr).alloc (Nat.le_refl _) (.cells (ophC ⟨xk, ⟨xt, xd, xc⟩, xl, xi, xb, xks, LA, lc, BA, bc, KA, kc⟩).toArray 33)
    have HW3 := hid (HW.out.below hbA)
    have HSt := hid (wstep12_calls w1 _ _ _ wb b jb S A2 n2 c2 HW3.out ⟨xk, ⟨xt, xd, xc⟩, xl, xi, xb, xks, LA, lc, BA, bc, KA, kc⟩ HIn.out (lvH (xs.take k)) HAt.out (by have := HFb.out; show _ + 5 * xl.length + 30 ≤ _; omega) HFb.out.1 HFb.out.2.1 HFb.out.2.2.1 HT1.out)
    have HAt2 : Hid ((doH S ⟨xk, ⟨xt, xd, xc⟩, xl, xi, xb, xks, LA, lc, BA, bc, KA, kc⟩).1.At (lvH (xs.take (k + 1)))) := hid (by rw [HFa.out.2.2.2.2.2]; exact HAt.out.doH _ HIn.out.i2)
    clear hbA HW
    unfold ophC at HSt
    go_wp2_with fail
    refine HSt.out.mono ?_
    rintro e w4 ⟨rfl, X4, Y4, jb4, A4, n4, c4', hw4⟩
    have HW4 := hid hw4
    clear hw4 HSt HW3 c0 c1 c2' c3 c4 c5 c6 c7
    go_wp2_with fail
    go_roundw
    case rel => exact ⟨k + 1, _, _, _, _, _, _, _, by omega, by go_num, HW4, HAt2⟩
    case measure => simp [intOf]; omega
   ·obtain rfl : k = xs.length := by omega
    clear hlt hk
    have hlv : lvH (xs.take xs.length) ≤ 2200 := by rw [List.take_length]; exact lv_le HFe.out.1 HFe.out.2
    have HAm := hid (HAt.out.mono hlv)
    have HAc := hid (HAm.out.crash ks)
    obtain ⟨D, l, ho⟩ := opens_of (S := S.crash ks) ⟨rfl, rfl⟩ HAc.out.ok (n := hN) (by decide) (by decide)
    have he1 := ho.is_
    have he2 := ho.again (by decide) (by decide)
    have had := HAc.out.openJ hN
    have hle := openJ_len HAc.out hN
    rw [he1] at had hle
    simp only at had hle
    have HE1 := hid he1
    have HE2 := hid he2
    have HAd := hid had
    have HLe := hid hle
    have x0 := HW.out.wa.box.c 0 rfl
    clear hlv HAt ho he1 he2 had hle
    go_wp2_with fail
    refine (HW.out.wa.fx.step (S2 := S.crash ks) (fun O D hh hXO => fcrash_calls _ O D b S hh (HAm.out.fit (by omega)) KA kc ks ((HW.out.wa.oldK HK1.out).mono fun k hk => (hXO k hk.1).2) (by have := HKl.out; omega))).mono ?_
    rintro x w3 ⟨rfl, hf3, ho3⟩
    have HW3 := hid (HW.out.turn hf3 (fun _ h => h) (fun _ h => h) ho3)
    have HO := hid (jopen12_calls w1 w3 _ _ b _ HW3.out.wa.fx hN hN_le 2200 HAc.out (by omega) HT1.out)
    rw [HE1.out] at HO
    simp only at HO
    clear hf3 ho3 HW x0
    have x0 := HW3.out.wa.box.c 0 rfl
    go_wp2_with fail
    refine HO.out.mono ?_
    rintro x w4 ⟨v4, A4, c4, X4, Y4, rfl, hO⟩
    obtain ⟨j4, rfl, hj4, _⟩ := hO.jx
    have HW4 := hid (HW3.out.turn hO.fx hO.hx hO.hy hO.only)
    have HR4 := hid hO.row
    clear hO hj4 HO HW3 x0
    have x0 := HW4.out.wa.box.c 0 rfl
    obtain ⟨O4, D4, hat4⟩ := HW4.out.wa.fx.at_
    have HOp := hid (fops_calls _ O4 D4 b _ hat4 (HAd.out.fit (by omega)))
    clear hat4
    go_wp2_with fail
    refine HOp.out.mono ?_
    rintro x w5 ⟨rfl, hb5⟩
    have HW5 := hid (HW4.out.below hb5)
    have HR5 := hid ((HR4.out.below hb5).mono (R' := XN X4 w4 w5) (fun k hk => .inl hk))
    have HO := hid (jopen12_calls w1 w5 _ _ b _ HW5.out.wa.fx hN hN_le 2202 HAd.out (by omega) HT1.out)
    rw [HE2.out] at HO
    simp only at HO
    clear hb5 HOp HW4 HR4 x0
    have x0 := HW5.out.wa.box.c 0 rfl
    go_wp2_with fail
    refine HO.out.mono ?_
    rintro x w6 ⟨v6, A6, c6, X6, Y6, rfl, hO⟩
    obtain ⟨j6, rfl, hj6, _⟩ := hO.jx
    have HW6 := hid (HW5.out.turn hO.fx hO.hx hO.hy hO.only)
    have HRa := hid (HR5.out.keep hO.only (fun k hk hn => hn hk))
    have HRb := hid hO.row
    have HA := hid (jalive12_calls w6 (HT1.out.on HW6.out.wa.fx.bel))
    clear hO hj6 HO HW5 HR5 x0
    go_wp2_with fail
    refine HA.out.mono ?_
    rintro x w7 ⟨rfl, hb7⟩
    have HW7 := hid (HW6.out.below hb7)
    have HOa := hid (old12_calls w7 _ A4 c4 l (HRa.out.below hb7) (by have := HLe.out; omega))
    have HRb7 := hid (HRb.out.below hb7)
    clear hb7 HA HW6 HRa HRb
    go_wp2_with fail
    refine HOa.out.mono ?_
    rintro x w8 ⟨A8, c8, rfl, hown8, hb8⟩
    have HW8 := hid (HW7.out.below hb8)
    have HR8 := hid (rowT_of_own (C := enC) (R := fun _ => True) hown8 (fun _ _ => trivial))
    have HOb := hid (old12_calls w8 _ A6 c6 l (HRb7.out.below hb8) (by have := HLe.out; omega))
    clear hown8 hb8 HOa HW7 HRb7
    go_wp2_with fail
    refine HOb.out.mono ?_
    rintro x w9 ⟨A9, c9, rfl, hown9, hb9⟩
    have HW9 := hid (HW8.out.below hb9)
    have HSm := hid (rsame12_calls w9 _ _ A8 A9 c8 c9 l l (HR8.out.below hb9) (rowT_of_own (C := enC) (R := fun _ => True) hown9 (fun _ _ => trivial)) (by have := HLe.out; omega) (by have := HLe.out; omega))
    rw [decide_eq_true rfl] at HSm
    clear hown9 hb9 HOb HW8 HR8
    go_wp2_with fail
    refine HSm.out.mono ?_
    rintro x w10 ⟨rfl, hb10⟩
    have HW10 := hid (HW9.out.below hb10)
    obtain ⟨O4, D4, hat4⟩ := HW10.out.wa.fx.at_
    have HOp := hid (fops_calls _ O4 D4 b _ hat4 (HAd.out.fit (by omega)))
    have x0 := HW10.out.wa.box.c 0 rfl
    clear hb10 HSm HW9 hat4
    go_wp2_with fail
    refine HOp.out.mono ?_
    rintro x w11 ⟨rfl, hb11⟩
    have HB11 : Hid (Below w.heap.size w w11) := hid (HB1.out.trans ((HW10.out.below hb11).wa.fx.bel.mono HB1.out.size))
    clear hb11 HOp HW10 x0
    go_wp2_with fail
    go_ret
    exact ⟨rfl, HB11.out⟩
 ·rw [decide_eq_false hf] at HFw
  clear hf HR
  go_enter Tryz.func6, Tryz.ntmps6
  go_wp2_with fail
  refine HFw.out.mono ?_
  rintro e w1 ⟨rfl, hb1⟩
  have HB1 := hid hb1
  have HA := hid (jalive12_calls w1 (HT.out.on hb1))
  clear hb1 HFw
  go_wp2_with fail
  refine HA.out.mono ?_
  rintro e w2 ⟨rfl, hb2⟩
  have HB2 := hid (HB1.out.trans (hb2.mono HB1.out.size))
  clear hb2 HA
  go_wp2_with fail
  go_ret
  exact ⟨rfl, HB2.out⟩
end Go.Proofs.YteafcaambnfdoaaGreatDoor
