/-
  The walk of SignNext.
-/
import Derived.Test.YtpndhffhdllmpaaDoorRefWhole
namespace Go.Proofs.YtpndhffhdllmpaaDoor
open Go Go.RowKit

set_option maxHeartbeats 4000000 in
theorem lnext_calls (A : Option Addr) (c : Nat) (l : List UInt8) (w : World) (hb : Byt w A l) (_hA : A = none → c = 0) (hlc : l.length ≤ c) (hm : c ≤ maxLen) (ht : Tabs w) :
    Calls Tryd.prog 3 #[.slice A l.length c] w fun e w' => e = .returned (.bool true) ∧ Below w.heap.size w w' := by
  by_cases hbig : 2000 < l.length
  · have hcon := Lib.hid (alive_calls w ht)
    clear hb ht hm _hA
    go_enter Tryd.func3, Tryd.ntmps3
    go_wp2_with fail
    refine hcon.out.mono ?_
    rintro e w' ⟨rfl, h⟩
    go_wp2
    go_ret
    exact ⟨rfl, h⟩
  · have C1 := Lib.hid (fun W (h : Below w.heap.size w W) => next_calls A c l W (hb.below h) hlc hm)
    have C2 := Lib.hid (fun W (h : Below w.heap.size w W) => rnext_calls A c l W (hb.below h) (by omega))
    have C3 := Lib.hid (fun W (h : Below w.heap.size w W) => whole_calls A c l W (hb.below h) (tabs_below ht h))
    have C4 := Lib.hid (fun W (h : Below w.heap.size w W) => rwhole_calls A c l W (hb.below h))
    have hr := runes_valid l
    have hv : (nextL l).1 ≤ 1114111 := by
      unfold nextL
      split
      · simp
      · have := decodeL_valid l
        unfold Valid at this
        omega
    have hn4 : (nextL l).2 ≤ 4 := by
      unfold nextL
      split
      · simp
      · exact decodeL_le4 _
    clear hb hm _hA hr
    unfold ToldNext at C2
    generalize (nextL l).1 = r1 at *
    generalize (nextL l).2 = n1 at *
    generalize wholeL l = wl at *
    go_enter Tryd.func3, Tryd.ntmps3
    go_wp2_with fail
    refine (C1.out _ (Below.refl _ _)).mono ?_
    rintro e w1 ⟨rfl, k1⟩
    go_wp2_with fail
    refine (C2.out _ k1).mono ?_
    rintro e w2 ⟨rfl, hb2⟩
    have k2 : Below w.heap.size w w2 := k1.trans (hb2.mono k1.size)
    clear hb2 k1
    go_wp2_with fail
    refine (alive_calls _ (tabs_below ht k2)).mono ?_
    rintro e w3 ⟨rfl, hb3⟩
    have k3 : Below w.heap.size w w3 := k2.trans (hb3.mono k2.size)
    clear hb3 k2
    go_wp2_with fail
    refine (C3.out _ k3).mono ?_
    rintro e w4 ⟨rfl, hb4⟩
    have k4 : Below w.heap.size w w4 := k3.trans (hb4.mono k3.size)
    clear hb4 k3
    go_wp2_with fail
    refine (C4.out _ k4).mono ?_
    rintro e w5 ⟨rfl, hb5⟩
    have k5 : Below w.heap.size w w5 := k4.trans (hb5.mono k4.size)
    clear hb5 k4
    cases wl
    all_goals
      go_wp2_with fail
      go_ret
      exact ⟨rfl, k5⟩
end Go.Proofs.YtpndhffhdllmpaaDoor
