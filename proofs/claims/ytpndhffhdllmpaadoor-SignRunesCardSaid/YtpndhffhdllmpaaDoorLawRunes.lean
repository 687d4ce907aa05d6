/-
  The walk of SignRunes.
-/
import Derived.Test.YtpndhffhdllmpaaDoorRefClean
import Derived.Test.YtpndhffhdllmpaaDoorSame
import Derived.Test.YtpndhffhdllmpaaDoorAlive
namespace Go.Proofs.YtpndhffhdllmpaaDoor
open Go Go.RowKit

set_option maxHeartbeats 8000000 in
theorem lrunes_calls (A : Option Addr) (c : Nat) (l : List UInt8) (w : World) (hb : Byt w A l) (hlc : l.length ≤ c) (hm : c ≤ maxLen) (ht : Tabs w) :
    Calls Tryd.prog 4 #[.slice A l.length c] w fun e w' => e = .returned (.bool true) ∧ Below w.heap.size w w' := by
  by_cases hbig : 2000 < l.length
  · have hcon := Lib.hid (alive_calls w ht)
    clear hb ht hm
    go_enter Tryd.func4, Tryd.ntmps4
    go_wp2_with fail
    refine hcon.out.mono ?_
    rintro e w' ⟨rfl, h⟩
    go_wp2
    go_ret
    exact ⟨rfl, h⟩
  · have hcl := clean_length l
    have hrl := runes_length l
    have hrg := Lib.hid (runes_getD l)
    have h1 := Lib.hid (runes_clean l)
    have h2 := Lib.hid (clean_clean l)
    have C1 := Lib.hid (fun W (h : Below w.heap.size w W) => runes_calls A c l W (hb.below h) (by omega))
    have C2 := Lib.hid (fun W (h : Below w.heap.size w W) => clean_calls A c l W (hb.below h) (by omega))
    have C3 := Lib.hid (fun W (h : Below w.heap.size w W) => rrunes_calls A c l W (hb.below h) hlc hm (by omega))
    have C4 := Lib.hid (fun W (h : Below w.heap.size w W) => rclean_calls A c l W (hb.below h) hlc hm (by omega))
    clear hb hm
    generalize runes l = rs at *
    generalize cleanL l = cl at *
    go_enter Tryd.func4, Tryd.ntmps4
    go_wp2_with fail
    refine (C1.out _ (Below.refl _ _)).mono ?_
    rintro e w1 ⟨v1, rfl, hown1, k1⟩
    obtain ⟨A1, c1, rfl⟩ := own_form hown1
    obtain ⟨hR1, _, _, _⟩ := rd32_of_own hown1
    clear hown1
    go_wp2_with fail
    refine (C2.out _ k1).mono ?_
    rintro e w2 ⟨rfl, hb2⟩
    have k2 : Below w.heap.size w w2 := k1.trans (hb2.mono k1.size)
    have hR2 := hR1.below hb2
    clear hb2 k1 hR1
    go_wp2_with fail
    refine (alive_calls _ (tabs_below ht k2)).mono ?_
    rintro e w3 ⟨rfl, hb3⟩
    have k3 : Below w.heap.size w w3 := k2.trans (hb3.mono k2.size)
    have hR3 := hR2.below hb3
    clear hb3 k2 hR2
    go_wp2_with fail
    refine (C3.out _ k3).mono ?_
    rintro e w4 ⟨v4, rfl, hown4, hb4⟩
    have k4 : Below w.heap.size w w4 := k3.trans (hb4.mono k3.size)
    have hR4 := hR3.below hb4
    obtain ⟨A4, c4, rfl⟩ := own_form hown4
    obtain ⟨hS4, _, _, _⟩ := rd64_of_own hown4
    clear hb4 k3 hR3 hown4
    go_wp2_with fail
    refine (same_calls A1 A4 c1 c4 rs _ hR4 hS4 (by unfold maxLen; omega) hrg.out).mono ?_
    rintro e w5 ⟨rfl, hb5⟩
    have k5 : Below w.heap.size w w5 := k4.trans (hb5.mono k4.size)
    clear hb5 k4 hR4 hS4
    go_wp2_with fail
    refine (C4.out _ k5).mono ?_
    rintro e w6 ⟨v6, rfl, hown6, hb6⟩
    have k6 : Below w.heap.size w w6 := k5.trans (hb6.mono k5.size)
    obtain ⟨A6, c6, rfl⟩ := own_form hown6
    obtain ⟨hB6, _, _, _⟩ := byt_of_own hown6
    have hcv6 := hB6.convert (P := Tryd.prog) c6 22 5 9 Tryd.underlying22 Tryd.underlying5 Tryd.underlying9 cl.length rfl
    have hs6 := Lib.run_convert_string_bytes (P := Tryd.prog) w6 9 22 5 ⟨cl.toArray⟩ Tryd.underlying9 Tryd.underlying22 Tryd.underlying5
    clear hb6 k5 hown6 hB6
    go_wp2_with fail
    refine (clean_calls _ _ cl _ (byt_bytes w6 cl) (by omega)).mono ?_
    rw [h2.out]
    rintro e w7 ⟨rfl, hb7⟩
    have k6' : Below w.heap.size w (Lib.bytesWorld w6 5 ⟨cl.toArray⟩) := k6.trans ((below_bytes w6 _ _).mono k6.size)
    have k7 : Below w.heap.size w w7 := k6'.trans (hb7.mono k6'.size)
    have hs7 := Lib.run_convert_string_bytes (P := Tryd.prog) w7 9 22 5 ⟨cl.toArray⟩ Tryd.underlying9 Tryd.underlying22 Tryd.underlying5
    clear hb7 k6 k6' hcv6 hs6
    go_wp2_with fail
    refine (runes_calls _ _ cl _ (byt_bytes w7 cl) (by omega)).mono ?_
    rw [h1.out]
    rintro e w8 ⟨v8, rfl, hown8, hb8⟩
    have k7' : Below w.heap.size w (Lib.bytesWorld w7 5 ⟨cl.toArray⟩) := k7.trans ((below_bytes w7 _ _).mono k7.size)
    have k8 : Below w.heap.size w w8 := k7'.trans (hb8.mono k7'.size)
    obtain ⟨A8, c8, rfl⟩ := own_form hown8
    obtain ⟨hR8, _, _, _⟩ := rd32_of_own hown8
    clear hb8 k7 k7' hown8 hs7
    go_wp2_with fail
    refine (C3.out _ k8).mono ?_
    rintro e w9 ⟨v9, rfl, hown9, hb9⟩
    have k9 : Below w.heap.size w w9 := k8.trans (hb9.mono k8.size)
    have hR9 := hR8.below hb9
    obtain ⟨A9, c9, rfl⟩ := own_form hown9
    obtain ⟨hS9, _, _, _⟩ := rd64_of_own hown9
    clear hb9 k8 hR8 hown9
    go_wp2_with fail
    refine (same_calls A8 A9 c8 c9 rs _ hR9 hS9 (by unfold maxLen; omega) hrg.out).mono ?_
    rintro e w10 ⟨rfl, hb10⟩
    have k10 : Below w.heap.size w w10 := k9.trans (hb10.mono k9.size)
    clear hb10 k9 hR9 hS9
    go_wp2
    go_ret
    exact ⟨rfl, k10⟩
end Go.Proofs.YtpndhffhdllmpaaDoor
