/-
  The walk of JournalAll (layer 12).
-/
import Derived.Test.YteafcaambnfdoaaGreatDoorPh48
namespace Go.Proofs.YteafcaambnfdoaaGreatDoor
open Go Go.RowKit
open Go.Lib (hid)
set_option maxRecDepth 100000
set_option maxHeartbeats 8000000 in
theorem lall12_calls (A : Option Addr) (c : Nat) (xs : List OpH) (w : World) (hR : RdO12 w A xs) (hs : ∀ x ∈ xs, OphSm x 1048576) (hl : xs.length ≤ 1048576) (ht : LaysR w) :
  Calls Tryz.prog 3 #[.slice A xs.length c] w fun x w' => x = .returned (.bool true) ∧ Below w.heap.size w w' := by
 have HFw := hid (few12_calls A c xs w hR hs hl)
 have HR := hid hR
 have HT := hid ht
 clear hR hs hl ht
 by_cases hf : xs.length ≤ 50 ∧ totH xs ≤ 6000
 ·rw [decide_eq_true hf] at HFw
  have HFe := hid hf
  clear hf
  go_enter Tryz.func3, Tryz.ntmps3
  go_wp2_with fail
  refine HFw.out.mono ?_
  rintro e w1 ⟨rfl, hb1⟩
  have HB1 := hid hb1
  have HBg := hid (wbegin12_calls w1 (HT.out.on hb1))
  have HT1 := hid (HT.out.on hb1)
  have HR1 := hid (HR.out.below hb1)
  clear hb1 HFw
  go_wp2_with fail
  refine HBg.out.mono ?_
  rintro e w2 ⟨wb, b, jb, X2, Y2, A2, n2, c2, rfl, hw2⟩
  have HW2 := hid hw2
  clear hw2 HBg
  go_wp2_with fail
  go_loopw [15] (fun v15 wr => ∃ (k jb : Nat) (X Y : Nat → Prop) (S : FS) (A n c : _), k ≤ xs.length ∧ v15 = .int .i64 (k : Int) ∧ Hid (WJ w1 wr X Y wb b jb S S A n c) ∧ Hid (S.At (lvH (xs.take k)))) (fun v15 _ => xs.length - (intOf v15).toNat)
  case atStart => exact ⟨0, jb, X2, Y2, FS.new, A2, n2, c2, Nat.zero_le _, rfl, HW2, hid FS.At.new⟩
  case round =>
   clear HW2
   obtain ⟨k, jb, X, Y, S, A2, n2, c2, hk, rfl, HW, HAt⟩ := hrel
   by_cases hlt : k < xs.length
   ·have hkk : (k : Int) < (xs.length : Int) := by omega
    have hk50 : (k : Int) + 1 ≤ 9223372036854775807 := by have := HFe.out.1; omega
    have hq : xs[k]? = some xs[k] := List.getElem?_eq_getElem hlt
    obtain ⟨g, o, rfl, hg, hcs, hin2⟩ := (HR1.out.below HW.out.wa.fx.bel).at_ hq
    have hin := HR1.out.all _ (List.getElem_mem hlt)
    have HIn := hid hin
    have HFa := hid (few_at HFe.out hq)
    have c0 := hcs 0 _ rfl
    have c1 := hcs 1 _ rfl
    have c2' := hcs 2 _ rfl
    have c3 := hcs 3 _ rfl
    have c4 := hcs 4 _ rfl
    have c5 := hcs 5 _ rfl
    have c6 := hcs 6 _ rfl
    have c7 := hcs 7 _ rfl
    rw [Nat.add_zero] at c0
    clear hcs hq hin hin2
    generalize xs[k] = x at *
    obtain ⟨xk, ⟨xt, xd, xc⟩, xl, xi, xb, xks, LA, lc, BA, bc, KA, kc⟩ := x
    simp only at c0 c1 c2' c3 c4 c5 c6 c7
    have HFb : Hid (xb.length ≤ 6000 ∧ xks.length ≤ 6000 ∧ xl.length ≤ 300 ∧ lvH (xs.take k) ≤ 2200 ∧ lvH (xs.take (k + 1)) ≤ 2200) := hid ⟨HFa.out.1, HFa.out.2.1, HFa.out.2.2.1, HFa.out.2.2.2.1, HFa.out.2.2.2.2.1⟩
    have hbA := (Below.refl _ wr).alloc (Nat.le_refl _) (.cells (ophC ⟨xk, ⟨xt, xd, xc⟩, xl, xi, xb, xks, LA, lc, BA, bc, KA, kc⟩).toArray 33)
    have HW3 := hid (HW.out.below hbA)
    have HSt := hid (wstep12_calls w1 _ _ _ wb b jb S A2 n2 c2 HW3.out ⟨xk, ⟨xt, xd, xc⟩, xl, xi, xb, xks, LA, lc, BA, bc, KA, kc⟩ HIn.out (lvH (xs.take k)) HAt.out (by have := HFb.out; show _ + 5 * xl.length + 30 ≤ _; omega) HFb.out.1 HFb.out.2.1 HFb.out.2.2.1 HT1.out)
    have HAt2 : Hid ((doH S ⟨xk, ⟨xt, xd, xc⟩, xl, xi, xb, xks, LA, lc, BA, bc, KA, kc⟩).1.At (lvH (xs.take (k + 1)))) := hid (by rw [HFa.out.2.2.2.2.2]; exact HAt.out.doH _ HIn.out.i2)
    clear hbA HW
    unfold ophC at HSt
    go_wp2_with fail
    refine HSt.out.mono ?_
    rintro e w4 ⟨rfl, X4, Y4, jb4, A4, n4, c4', hw4⟩
    have HW4 := hid hw4
    have HSd := hid (wstands12_calls w1 w4 _ _ wb b jb4 _ A4 n4 c4' hw4 (HAt2.out.fit (by have := HFb.out; omega)) HT1.out)
    clear hw4 HSt HW3 c0 c1 c2' c3 c4 c5 c6 c7
    go_wp2_with fail
    refine HSd.out.mono ?_
    rintro e w5 ⟨rfl, hb5⟩
    have HW5 := hid (HW4.out.below hb5)
    clear hb5 HSd HW4
    go_wp2_with fail
    go_roundw
    case rel => exact ⟨k + 1, _, _, _, _, _, _, _, by omega, by go_num, HW5, HAt2⟩
    case measure => simp [intOf]; omega
   ·obtain rfl : k = xs.length := by omega
    clear hlt hk
    have HA := hid (jalive12_calls wr (HT1.out.on HW.out.wa.fx.bel))
    go_wp2_with fail
    refine HA.out.mono ?_
    rintro x w3 ⟨rfl, hb3⟩
    have HB3 : Hid (Below w.heap.size w w3) := hid (HB1.out.trans ((HW.out.below hb3).wa.fx.bel.mono HB1.out.size))
    clear hb3 HA
    go_wp2_with fail
    go_ret
    exact ⟨rfl, HB3.out⟩
 ·rw [decide_eq_false hf] at HFw
  clear hf HR
  go_enter Tryz.func3, Tryz.ntmps3
  go_wp2_with fail
  refine HFw.out.mono ?_
  rintro e w1 ⟨rfl, hb1⟩
  have HB1 := hid hb1
  have HA := hid (jalive12_calls w1 (HT.out.on hb1))
  clear hb1 HFw
  go_wp2_with fail
  refine HA.out.mono ?_
  rintro e w2 ⟨rfl, hb2⟩
  have HB2 := hid (HB1.out.trans (hb2.mono HB1.out.size))
  clear hb2 HA
  go_wp2_with fail
  go_ret
  exact ⟨rfl, HB2.out⟩
end Go.Proofs.YteafcaambnfdoaaGreatDoor
