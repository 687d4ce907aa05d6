/-
  'alive' of the statements: it answers true, in any memory in which the tables of unicode/utf8 lie.
-/
import Derived.Test.YtpndhffhdllmpaaDoorRunes
import Derived.Test.YtpndhffhdllmpaaDoorRowR
import Derived.Test.YtpndhffhdllmpaaDoorPut
import Derived.Test.YtpndhffhdllmpaaDoorClean
namespace Go.Proofs.YtpndhffhdllmpaaDoor
open Go Go.RowKit

theorem runes_a : runes [195, 169, 255, 65] = [233, 65533, 65] := by decide +kernel
theorem feed_a : feedL ([] ++ [195]) = ([], [195]) := by decide +kernel
theorem feed_b : feedL ([195] ++ [169]) = ([233], []) := by decide +kernel
theorem feed_c : feedL ([] ++ [226]) = ([], [226]) := by decide +kernel
theorem runes_c : runes [226] = [65533] := by decide +kernel
theorem next_d : nextL [226, 130, 172, 65] = (8364, 3) := by decide +kernel
theorem whole_e : wholeL [65] = true := by decide +kernel
theorem whole_f : wholeL [226, 130] = false := by decide +kernel
theorem clean_g : cleanL [255] = [239, 191, 189] := by decide +kernel

theorem kept_put {w1 w2 w3 : World} (h : Below w1.heap.size w1 w2) (hg : w2.grownBy w3 (some w1.heap.size)) : Below w1.heap.size w1 w3 := h.grown hg h.size (fun k hk => by injection hk with hk; omega)

set_option maxHeartbeats 8000000 in
set_option maxRecDepth 100000 in
theorem alive_calls (w : World) (ht : Tabs w) :
    Calls Tryd.prog 10 #[] w fun e w' => e = .returned (.bool true) ∧ Below w.heap.size w w' := by
  go_enter Tryd.func10, Tryd.ntmps10
  go_wp2_with fail
  refine (runes_calls _ _ [195, 169, 255, 65] _ (byt_lit w [195, 169, 255, 65]) (by simp)).mono ?_
  rw [runes_a]
  rintro e w1 ⟨v1, rfl, hown1, hb1⟩
  have hw1 : w.heap.size < w1.heap.size := by have := hb1.size; simp at this; omega
  have hbw : Below w.heap.size w w1 := ((Below.refl _ _).alloc (Nat.le_refl _) _).trans (hb1.mono (by simp))
  have Hbw := Lib.hid hbw
  have ht1 : Tabs w1 := tabs_below ht hbw
  obtain ⟨A1, c1, rfl⟩ := own_form hown1
  obtain ⟨g1, rfl, _, hg1, hcell1⟩ := own_cells32 hown1 (by decide)
  have k0 : Below w1.heap.size w1 (w1.alloc (.cells #[.string ⟨#[]⟩] 39)) := (Below.refl _ _).alloc (Nat.le_refl _) _
  have hF1 : FeedAt (w1.alloc (.cells #[.string ⟨#[]⟩] 39)) w1.heap.size [] := heap_alloc_new w1 _
  clear hown1 hb1 ht hbw
  have Hcell := Lib.hid hcell1
  clear hcell1
  go_wp2_with fail
  refine (put_calls w1.heap.size [] 195 _ hF1 (by simp) (tabs_below ht1 k0)).mono ?_
  rw [feed_a]
  rintro e w2 ⟨v2, rfl, hown2, hF2, hgr2⟩
  have k2 := kept_put k0 hgr2
  obtain ⟨A2, c2, rfl⟩ := own_form hown2
  clear hown2 hgr2 hF1 k0
  go_wp2_with fail
  refine (put_calls w1.heap.size [195] 169 _ hF2 (by simp) (tabs_below ht1 k2)).mono ?_
  rw [feed_b]
  rintro e w3 ⟨v3, rfl, hown3, hF3, hgr3⟩
  have k3 := kept_put k2 hgr3
  obtain ⟨A3, c3, rfl⟩ := own_form hown3
  clear hown3 hgr3 hF2 k2
  go_wp2_with fail
  refine (waits_calls w1.heap.size [] _ hF3).mono ?_
  rintro e w4 ⟨rfl, rfl⟩
  go_wp2_with fail
  refine (put_calls w1.heap.size [] 226 _ hF3 (by simp) (tabs_below ht1 k3)).mono ?_
  rw [feed_c]
  rintro e w4 ⟨v4, rfl, hown4, hF4, hgr4⟩
  have k4 := kept_put k3 hgr4
  clear hown4 hgr4 hF3 k3
  go_wp2_with fail
  refine (flush_calls w1.heap.size [226] _ hF4 (by simp)).mono ?_
  rw [runes_c]
  rintro e w5 ⟨v5, rfl, hown5, hF5, hgr5⟩
  have k5 := kept_put k4 hgr5
  obtain ⟨A5, c5, rfl⟩ := own_form hown5
  clear hown5 hgr5 hF4 hF5 k4
  go_wp2_with fail
  refine (next_calls _ _ [226, 130, 172, 65] _ (byt_lit w5 [226, 130, 172, 65]) (by simp) (by unfold maxLen; omega)).mono ?_
  rw [next_d]
  rintro e w6 ⟨rfl, hb6⟩
  have k6 : Below w1.heap.size w1 w6 := (k5.alloc k5.size _).trans (hb6.mono (by have := k5.size; simp; omega))
  clear hb6 k5
  have d0 : w6.cell? ⟨g1, 0, none⟩ = some (.int .i32 233) := by rw [k6.cell hg1]; exact Hcell.out 0 (by decide)
  have d1 : w6.cell? ⟨g1, 1, none⟩ = some (.int .i32 65533) := by rw [k6.cell hg1]; exact Hcell.out 1 (by decide)
  have d2 : w6.cell? ⟨g1, 2, none⟩ = some (.int .i32 65) := by rw [k6.cell hg1]; exact Hcell.out 2 (by decide)
  have k6' : Below w1.heap.size w1 (w6.alloc (.cells #[.int .u8 65] 5)) := k6.alloc k6.size _
  go_wp2_with fail
  refine (whole_calls _ _ [65] _ (byt_lit w6 [65]) (tabs_below ht1 k6')).mono ?_
  rw [whole_e]
  rintro e w7 ⟨rfl, hb7⟩
  have k7 : Below w1.heap.size w1 w7 := k6'.trans (hb7.mono k6'.size)
  clear hb7 k6 k6' d0 d1 d2
  have k7' : Below w1.heap.size w1 (w7.alloc (.cells #[.int .u8 226, .int .u8 130] 5)) := k7.alloc k7.size _
  go_wp2_with fail
  refine (whole_calls _ _ [226, 130] _ (byt_lit w7 [226, 130]) (tabs_below ht1 k7')).mono ?_
  rw [whole_f]
  rintro e w8 ⟨rfl, hb8⟩
  have k8 : Below w1.heap.size w1 w8 := k7'.trans (hb8.mono k7'.size)
  clear hb8 k7 k7'
  go_wp2_with fail
  refine (clean_calls _ _ [255] _ (byt_lit w8 [255]) (by simp)).mono ?_
  rw [clean_g]
  rintro e w9 ⟨rfl, hb9⟩
  have k9 : Below w1.heap.size w1 w9 := (k8.alloc k8.size _).trans (hb9.mono (by have := k8.size; simp; omega))
  clear hb9 k8
  go_wp2
  go_ret
  exact ⟨rfl, Hbw.out.trans (k9.mono (by omega))⟩
end Go.Proofs.YtpndhffhdllmpaaDoor
