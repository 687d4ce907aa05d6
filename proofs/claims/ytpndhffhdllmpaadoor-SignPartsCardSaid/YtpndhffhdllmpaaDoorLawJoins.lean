/-
  The walk of SignJoins.
-/
import Derived.Test.YtpndhffhdllmpaaDoorRowB
import Derived.Test.YtpndhffhdllmpaaDoorRowR
import Derived.Test.YtpndhffhdllmpaaDoorRefClean
import Derived.Test.YtpndhffhdllmpaaDoorSame
import Derived.Test.YtpndhffhdllmpaaDoorAlive
namespace Go.Proofs.YtpndhffhdllmpaaDoor
open Go Go.RowKit

set_option maxHeartbeats 8000000 in
theorem ljoins_calls (A B : Option Addr) (c d : Nat) (l m : List UInt8) (w : World) (hb : Byt w A l) (hbm : Byt w B m) (hBn : B = none → d = 0) (_hlc : l.length ≤ c) (_hmd : m.length ≤ d) (_hm : c ≤ maxLen) (_hm2 : d ≤ maxLen) (ht : Tabs w) :
    Calls Tryd.prog 9 #[.slice A l.length c, .slice B m.length d] w fun e w' => e = .returned (.bool true) ∧ Below w.heap.size w w' := by
  clear _hlc _hmd _hm _hm2
  by_cases hbig : 500 < l.length
  · have hcon := Lib.hid (alive_calls w ht)
    clear hb ht hbm hBn
    go_enter Tryd.func9, Tryd.ntmps9
    go_wp2_with fail
    refine hcon.out.mono ?_
    rintro e w' ⟨rfl, h⟩
    go_wp2
    go_ret
    exact ⟨rfl, h⟩
  by_cases hbig2 : 500 < m.length
  · have hcon := Lib.hid (alive_calls w ht)
    clear hb ht hbm hBn
    go_enter Tryd.func9, Tryd.ntmps9
    go_wp2_with fail
    refine hcon.out.mono ?_
    rintro e w' ⟨rfl, h⟩
    go_wp2
    go_ret
    exact ⟨rfl, h⟩
  have hcl := clean_length l
  have hrl := runes_length l
  have hrm := runes_length m
  have hcons : runes (cleanL l ++ m) = runes l ++ runes m := runes_enc_append _ (runes_valid l) m
  have hrg : ∀ i, (runes l ++ runes m).getD i 0 ≤ 1114111 := fun i => by rw [← hcons]; exact runes_getD _ i
  have h1 := Lib.hid (runes_clean l)
  have h2 := Lib.hid hcons
  have h3 := Lib.hid hrg
  have C2 := Lib.hid (clean_calls A c l w hb (by omega))
  have C3 := Lib.hid (fun W (h : Below w.heap.size w W) => runes_calls B d m W (hbm.below h) (by omega))
  have Hbm := Lib.hid hbm
  have HBn := Lib.hid hBn
  clear hb hbm hcons hrg hBn
  obtain ⟨i0, hi, hz0, hz1, hz2⟩ := info_parts info8
  obtain ⟨i1, hi1, hy0, hy1, hy2⟩ := info_parts info32
  generalize runes l = rs at *
  generalize runes m = ms at *
  generalize cleanL l = cl at *
  go_enter Tryd.func9, Tryd.ntmps9
  go_wp2_with fail
  refine C2.out.mono ?_
  rintro e w0 ⟨rfl, hb0⟩
  have hs6 := Lib.run_convert_string_bytes (P := Tryd.prog) w0 9 22 5 ⟨cl.toArray⟩ Tryd.underlying9 Tryd.underlying22 Tryd.underlying5
  have hcap := grownCap_ge w0 cl.length 0 5
  have hcap2 := grownCap_le_maxLen w0 cl.length 0 5 (by unfold maxLen; omega)
  have kw : Below w.heap.size w (Lib.bytesWorld w0 5 ⟨cl.toArray⟩) := hb0.trans ((below_bytes w0 _ _).mono hb0.size)
  have hBc := byt_bytes w0 cl
  clear hb0 C2
  go_wp2_with fail
  clear hs6
  generalize Lib.bytesWorld w0 5 ⟨cl.toArray⟩ = W at *
  generalize grownCap w0 cl.length 0 5 = cc at *
  refine (alive_calls _ (tabs_below ht kw)).mono ?_
  rintro e w2 ⟨rfl, k2⟩
  go_wp2_with fail
  refine (runes_calls _ cc cl _ (hBc.below k2) (by omega)).mono ?_
  rw [h1.out]
  rintro e w3 ⟨v3, rfl, hown3, hb3⟩
  have k3 : Below W.heap.size W w3 := k2.trans (hb3.mono k2.size)
  have hz2' := k2.size
  have hz3 : w2.heap.size ≤ w3.heap.size := hb3.size
  clear hb3 k2
  go_wp2_with fail
  refine (C3.out _ (kw.trans (k3.mono kw.size))).mono ?_
  rintro e w4 ⟨v4, rfl, hown4, hb4⟩
  have k4 : Below W.heap.size W w4 := k3.trans (hb4.mono k3.size)
  have hown3' := own_below hown3 hb4
  have hz4 := k4.size
  have hz34 : w3.heap.size ≤ w4.heap.size := hb4.size
  obtain ⟨v5, w5, hrun5, hown5, hg5⟩ := run_append_32 (P := Tryd.prog) w4 w2.heap.size w3.heap.size 29 29 i1 Tryd.underlying29 hi1 hy0 hy1 hy2 v3 v4 rs ms hown3' hown4 (by omega) (by omega)
  have k5 : Below W.heap.size W w5 := below_own k4 hg5 hown3' hz2' hz4
  have Hrun5 := Lib.hid hrun5
  clear hrun5 hg5 hown3 hown3' hown4 hb4 k4 k3
  have hw5 := k5.size
  have k5' : Below W.heap.size W (w5.alloc (.cells #[] 5)) := k5.alloc hw5 _
  obtain ⟨v6, w6, hrun6, hown6, hg6⟩ := run_append_byt (P := Tryd.prog) (w5.alloc (.cells #[] 5)) w5.heap.size 22 22 i0 Tryd.underlying22 hi hz0 hz1 hz2 (.slice (some ⟨w5.heap.size, 0, none⟩) 0 0) [] (own_empty w5 w5.heap.size (Nat.le_refl _)) (some ⟨w0.heap.size, 0, none⟩) cc cl (fun h => by cases h) (hBc.below k5') (by simp; omega) (by simp)
  have k6 : Below W.heap.size W w6 := below_own k5' hg6 (own_empty w5 w5.heap.size (Nat.le_refl _)) hw5 k5'.size
  have k56 : Below w5.heap.size w5 w6 := below_own ((Below.refl _ _).alloc (Nat.le_refl _) _) hg6 (own_empty w5 w5.heap.size (Nat.le_refl _)) (Nat.le_refl _) (by simp)
  simp only [List.nil_append] at hown6
  obtain ⟨v7, w7, hrun7, hown7, hg7⟩ := run_append_byt (P := Tryd.prog) w6 w5.heap.size 22 22 i0 Tryd.underlying22 hi hz0 hz1 hz2 v6 cl hown6 B d m HBn.out (Hbm.out.below (kw.trans (k6.mono kw.size))) (by omega) k56.size
  have k7 : Below W.heap.size W w7 := below_own k6 hg7 hown6 hw5 k6.size
  have k57 : Below w5.heap.size w5 w7 := below_own k56 hg7 hown6 (Nat.le_refl _) k56.size
  have Hrun6 := Lib.hid hrun6
  have Hrun7 := Lib.hid hrun7
  have hown57 := own_below hown5 k57
  clear hrun6 hrun7 hg6 hg7 hown6 k6 k56 k5 k5' k57 hown5
  have hql : (rs ++ ms).length ≤ 1000 := by rw [List.length_append]; omega
  have hcml : (cl ++ m).length ≤ 2500 := by rw [List.length_append]; omega
  generalize rs ++ ms = qs at *
  generalize cl ++ m = cm at *
  go_wp2_with (first | (at_builtin; refine wpList_append_g (o := ⟨some 24, _, _, _, _, _⟩) (by rfl) (.tmp 21) (.tmp 23) 29 rfl _ _ rfl rfl Hrun5.out ?_) | (at_builtin; refine wpList_append_g (o := ⟨some 27, _, _, _, _, _⟩) (by rfl) (.tmp 25) (.tmp 26) 22 rfl _ _ rfl rfl Hrun6.out ?_) | (at_builtin; refine wpList_append_g (o := ⟨some 29, _, _, _, _, _⟩) (by rfl) (.tmp 27) (.tmp 28) 22 rfl _ _ rfl rfl Hrun7.out ?_))
  clear Hrun5 Hrun6 Hrun7
  obtain ⟨A7, c7, rfl⟩ := own_form hown7
  obtain ⟨hB7, _, hlc7, hm7⟩ := byt_of_own hown7
  refine (rrunes_calls A7 c7 cm w7 hB7 hlc7 hm7 (by omega)).mono ?_
  rw [h2.out]
  rintro e w8 ⟨v8, rfl, hown8, hb8⟩
  have k8 : Below W.heap.size W w8 := k7.trans (hb8.mono k7.size)
  have hown58 := own_below hown57 hb8
  obtain ⟨A5, c5, rfl⟩ := own_form hown58
  obtain ⟨hR5, _, _, _⟩ := rd32_of_own hown58
  obtain ⟨A8, c8, rfl⟩ := own_form hown8
  obtain ⟨hS8, _, _, _⟩ := rd64_of_own hown8
  clear hb8 k7 hown57 hown58 hown8 hB7 hown7 hBc
  go_wp2_with fail
  refine (same_calls A5 A8 c5 c8 qs _ hR5 hS8 (by unfold maxLen; omega) h3.out).mono ?_
  rintro e w9 ⟨rfl, hb9⟩
  have k9 : Below W.heap.size W w9 := k8.trans (hb9.mono k8.size)
  clear hb9 k8 hR5 hS8
  go_wp2
  go_ret
  exact ⟨rfl, kw.trans (k9.mono kw.size)⟩
end Go.Proofs.YtpndhffhdllmpaaDoor
