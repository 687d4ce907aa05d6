/-
  The walk of SignBytes, at a code point that is a sign; and the whole.
-/
import Derived.Test.YtpndhffhdllmpaaDoorLawBytesA
namespace Go.Proofs.YtpndhffhdllmpaaDoor
open Go Go.RowKit

set_option maxHeartbeats 1000000 in
theorem lbytes_good (r : Nat) (A : Option Addr) (c : Nat) (l : List UInt8) (w : World) (hv : Valid r) (hb : Byt w A l) (hA : A = none → c = 0) (hl : l.length ≤ 100) (ht : Tabs w) :
    Calls Tryd.prog 5 #[.int .i64 (r : Int), .slice A l.length c] w fun e w' => e = .returned (.bool true) ∧ Below w.heap.size w w' := by
  have hr2 : r ≤ 1114111 := by unfold Valid at hv; omega
  have hcon := bytes_calls (r : Int) w (by omega) (by omega)
  rw [bytesL_valid r hv] at hcon
  have Hcon := Lib.hid hcon
  have hlen := Lib.runeCells_le (r : Int)
  rw [Lib.runeCells_length] at hlen
  have Hnx : Hid (nextL (Lib.encodeRune (r : Int) ++ l) = (r, (Lib.encodeRune (r : Int)).length)) := by
    refine Lib.hid ?_
    have hne : Lib.encodeRune (r : Int) ++ l ≠ [] := by
      intro h0
      have := congrArg List.length h0
      rw [List.length_append] at this
      simp at this
      simp [this.1] at hlen
    simp only [nextL, if_neg hne]
    exact dec_enc r hv l
  have Hwh := Lib.hid (whole_enc r hv)
  have Hb := Lib.hid hb
  have HA := Lib.hid hA
  have Hru := Lib.hid (fun W => run_rune1 W (r : Int))
  obtain ⟨i0, hi, hz0, hz1, hz2⟩ := info_parts info8
  clear hcon hv hb hA
  generalize Lib.encodeRune (r : Int) = el at *
  have hel : ((el.length : Int) == 0) = false := beq_eq_false_iff_ne.2 (by omega)
  go_enter Tryd.func5, Tryd.ntmps5
  go_wp2_with fail
  refine Hcon.out.mono ?_
  rintro e w1 ⟨A1, d1, rfl, hB1, hA1, hld1, hdm1, k1⟩
  have hw1 := k1.size
  clear Hcon
  have Hown1 := own_empty w1 w1.heap.size (Nat.le_refl _)
  obtain ⟨v6, w6, hrun6, hown6, hg6⟩ := run_append_byt (P := Tryd.prog) (w1.alloc (.cells #[] 5)) w1.heap.size 22 22 i0 Tryd.underlying22 hi hz0 hz1 hz2 (.slice (some ⟨w1.heap.size, 0, none⟩) 0 0) [] Hown1 A1 d1 el hA1 (hB1.alloc _) (by simp; omega) (by simp)
  have k16 : Below w1.heap.size w1 w6 := below_own ((Below.refl _ _).alloc (Nat.le_refl _) _) hg6 Hown1 (Nat.le_refl _) (by simp)
  simp only [List.nil_append] at hown6
  have k6 : Below w.heap.size w w6 := k1.trans (k16.mono hw1)
  obtain ⟨v7, w7, hrun7, hown7, hg7⟩ := run_append_byt (P := Tryd.prog) w6 w1.heap.size 22 22 i0 Tryd.underlying22 hi hz0 hz1 hz2 v6 el hown6 A c l HA.out (Hb.out.below k6) (by omega) k16.size
  have k17 : Below w1.heap.size w1 w7 := below_own k16 hg7 hown6 (Nat.le_refl _) k16.size
  have Hrun6 := Lib.hid hrun6
  have Hrun7 := Lib.hid hrun7
  have hml : (el ++ l).length ≤ 1000 := by rw [List.length_append]; omega
  clear hrun6 hrun7 hg6 hg7 hown6 k16 k6 Hown1
  generalize el ++ l = ml at *
  go_wp2_with (first | (at_builtin; refine wpList_append_g (o := ⟨some 32, _, _, _, _, _⟩) (by rfl) (.tmp 30) (.tmp 31) 22 rfl _ _ rfl rfl Hrun6.out ?_) | (at_builtin; refine wpList_append_g (o := ⟨some 34, _, _, _, _, _⟩) (by rfl) (.tmp 32) (.tmp 33) 22 rfl _ _ rfl rfl Hrun7.out ?_))
  clear Hrun6 Hrun7
  obtain ⟨A7, c7, rfl⟩ := own_form hown7
  obtain ⟨hB7, _, hlc7, hm7⟩ := byt_of_own hown7
  refine (next_calls A7 c7 ml w7 hB7 hlc7 hm7).mono ?_
  rw [Hnx.out]
  rintro e w8 ⟨rfl, hb8⟩
  have k18 : Below w1.heap.size w1 w8 := k17.trans (hb8.mono k17.size)
  clear hb8 k17 hB7 hown7 hlc7 hm7
  go_wp2_with fail
  refine (alive_calls _ (tabs_below ht (k1.trans (k18.mono hw1)))).mono ?_
  rintro e w9 ⟨rfl, hb9⟩
  have k19 : Below w1.heap.size w1 w9 := k18.trans (hb9.mono k18.size)
  clear hb9 k18
  have hcw := whole_calls A1 d1 el w9 (hB1.below k19) (tabs_below ht (k1.trans (k19.mono hw1)))
  rw [Hwh.out] at hcw
  have Hcw := Lib.hid hcw
  clear hcw
  go_wp2_with fail
  refine Hcw.out.mono ?_
  rintro e w10 ⟨rfl, hb10⟩
  have k110 : Below w1.heap.size w1 w10 := k19.trans (hb10.mono k19.size)
  clear hb10 k19 Hcw
  have hcv := (hB1.below k110).convert (P := Tryd.prog) d1 22 5 9 Tryd.underlying22 Tryd.underlying5 Tryd.underlying9 el.length rfl
  have hru := Hru.out w10
  have kend : Below w.heap.size w (w10.alloc (.cells #[.int .i32 (r : Int)] 21)) := k1.trans ((k110.alloc k110.size _).mono hw1)
  go_wp2_with fail
  go_ret
  exact ⟨rfl, kend⟩

theorem lbytes_calls (r : Int) (A : Option Addr) (c : Nat) (l : List UInt8) (w : World) (h0 : -9223372036854775808 ≤ r) (h1 : r ≤ 9223372036854775807) (hb : Byt w A l) (hA : A = none → c = 0) (_hlc : l.length ≤ c) (_hm : c ≤ maxLen) (ht : Tabs w) :
    Calls Tryd.prog 5 #[.int .i64 r, .slice A l.length c] w fun e w' => e = .returned (.bool true) ∧ Below w.heap.size w w' := by
  by_cases hbig : 100 < l.length
  · have Hcon := Lib.hid (bytes_calls r w h0 h1)
    clear hb _hlc _hm hA
    go_enter Tryd.func5, Tryd.ntmps5
    go_wp2_with fail
    refine Hcon.out.mono ?_
    generalize bytesL r = bl
    rintro e w1 ⟨A1, d1, rfl, _, _, _, _, k1⟩
    clear Hcon
    go_wp2_with fail
    refine (alive_calls _ (tabs_below ht k1)).mono ?_
    rintro e w2 ⟨rfl, hb2⟩
    have k2 : Below w.heap.size w w2 := k1.trans (hb2.mono k1.size)
    clear hb2 k1
    go_wp2
    go_ret
    exact ⟨rfl, k2⟩
  · by_cases hbad : r < 0 ∨ 1114111 < r ∨ (55296 ≤ r ∧ r ≤ 57343)
    · exact lbytes_bad r A c l w h0 h1 hbad (by omega) ht
    · obtain ⟨n, rfl⟩ := Int.eq_ofNat_of_zero_le (show 0 ≤ r by omega)
      exact lbytes_good n A c l w (by unfold Valid; omega) hb hA (by omega) ht
end Go.Proofs.YtpndhffhdllmpaaDoor
