/-
  The walk of WidthShows.
-/
import Derived.Test.YtfoiihopalcioaaDoorWRd
namespace Go.Proofs.YtfoiihopalcioaaDoor
open Go Go.RowKit

theorem show_len (c : List UInt8) : (showL c).length ≤ 4 * c.length + 3 := by
  have := clean_length c
  unfold showL
  split
  · simp
  · split
    · simp
    · omega
theorem cut_at (l : List UInt8) (k : Nat) (hk : k < (cutL l).length) : (cutL l).getD k [] ≠ [] ∧ cutL ((cutL l).getD k []) = [(cutL l).getD k []] ∧ ((cutL l).getD k []).length ≤ l.length := by
  have e : (cutL l).getD k [] = (cutL l)[k] := by simp [List.getD, hk]
  rw [e]; exact cut_mem l _ (List.getElem_mem hk)

set_option maxHeartbeats 8000000 in
theorem lshows_list (l : List UInt8) (w : World) (hm : l.length ≤ 9223372036854775807) (hsp : Spans w) :
    Calls Tryd.prog 5 #[.string (bs l)] w fun e w' => e = .returned (.bool true) ∧ Below w.heap.size w w' := by
  have hsz := bs_size l
  by_cases hbig : 1000 < l.length
  · have hcon := Lib.hid (walive_calls w hsp)
    clear hsp
    go_enter Tryd.func5, Tryd.ntmps5
    go_wp2_with fail
    refine hcon.out.mono ?_
    rintro e w' ⟨rfl, h⟩
    go_wp2
    go_ret
    exact ⟨rfl, h⟩
  have H1 := Lib.hid (rcut_rd l (by omega) w)
  have hcl := cutL_length l
  have HA := Lib.hid (cut_at l)
  have HS : Hid (sumL l = wides (cutL l)) := Lib.hid rfl
  have HZ1 := Lib.hid (fun W (h : Spans W) => sum_rd l (by omega) W h)
  have HZ2 := Lib.hid (fun W => rsum_calls l W (by omega))
  generalize sumL l = sm at *
  generalize cutL l = cs at *
  go_enter Tryd.func5, Tryd.ntmps5
  go_wp2_with fail
  refine H1.out.mono ?_
  rintro e w1 ⟨A1, c1, rfl, hR1, hb1⟩
  have HR1 := Lib.hid hR1
  have hs1 := spans_below hsp hb1
  have Hb1 := Lib.hid hb1
  have hz1 := hb1.size
  clear hR1 hb1 hsp H1
  go_wp2_with fail
  go_loopw [3, 14] (fun v3 v14 wr => ∃ k : Nat, k ≤ cs.length ∧ v14 = .int .i64 (k : Int) ∧ v3 = .int .i64 (wides (cs.take k) : Int) ∧ Below w1.heap.size w1 wr) (fun _ v14 _ => cs.length - (intOf v14).toNat)
  case atStart => exact ⟨0, by omega, rfl, rfl, Below.refl _ _⟩
  case round =>
    obtain ⟨k, hk, rfl, rfl, hbel⟩ := hrel
    by_cases hlt : k < cs.length
    · obtain ⟨g, o, rfl, hg, hc⟩ := rdS_at (HR1.out.below hbel) (by omega)
      have ck := hc k hlt
      obtain ⟨a1, a2, a3⟩ := HA.out k hlt
      have hsl := show_len (cs.getD k [])
      have D1 := Lib.hid (fun W (h : Spans W) => show_rd (cs.getD k []) (by omega) W h)
      have D2 := Lib.hid (fun W (h : Spans W) => wide_rd (cs.getD k []) (by omega) W h)
      have D3 := Lib.hid (fun W => rwide_calls (cs.getD k []) W (by omega))
      have D4 := Lib.hid (fun W => rshow_calls (cs.getD k []) W (by omega))
      have D5 : Hid (∀ W, Spans W → Calls Tryd.prog 15 #[.string (bs (showL (cs.getD k [])))] W fun e w' => ∃ A c, e = .returned (.slice A 1 c) ∧ Below W.heap.size W w') := Lib.hid fun W h => by
        have := cut_rd (showL (cs.getD k [])) (by omega) W h
        rw [show_cut _ a1 a2] at this
        exact this.mono (fun e w' ⟨A, c, h1, _, h2⟩ => ⟨A, c, h1, h2⟩)
      have D6 : Hid (∀ W, Spans W → Calls Tryd.prog 21 #[.string (bs (showL (cs.getD k [])))] W fun e w' => e = .returned (.int .i64 (wideL (cs.getD k []) : Int)) ∧ Below W.heap.size W w') := Lib.hid fun W h => by
        have := wide_rd (showL (cs.getD k [])) (by omega) W h
        rw [show_wide _ a1] at this
        exact this
      have Hwt := Lib.hid (wides_take cs k hlt)
      have hw1 := wides_le (cs.take k)
      rw [List.length_take] at hw1
      have hw2 := wideL_le (cs.getD k [])
      clear hc a1 a2 a3 hsl
      generalize wideL (cs.getD k []) = y at *
      generalize showL (cs.getD k []) = sh at *
      generalize wides (cs.take k) = z at *
      generalize cs.getD k [] = cK at *
      have hwr : IntKind.i64.wrap ((z : Int) + (y : Int)) = (z : Int) + (y : Int) := IntWalk.i64_in _ (by omega)
      have hyy : ((y : Int) != (y : Int)) = false := by simp
      go_wp2_with fail
      refine (D1.out _ (spans_below hs1 hbel)).mono ?_
      rintro e w2 ⟨rfl, hb2⟩
      have k2 : Below w1.heap.size w1 w2 := hbel.trans (hb2.mono hbel.size)
      clear hb2 ck hbel
      go_wp2_with fail
      refine (D2.out _ (spans_below hs1 k2)).mono ?_
      rintro e w3 ⟨rfl, hb3⟩
      have k3 : Below w1.heap.size w1 w3 := k2.trans (hb3.mono k2.size)
      clear hb3 k2
      go_wp2_with fail
      refine (D3.out _).mono ?_
      rintro e w4 ⟨rfl, hb4⟩
      have k4 : Below w1.heap.size w1 w4 := k3.trans (hb4.mono k3.size)
      clear hb4 k3
      go_wp2_with fail
      refine (D4.out _).mono ?_
      rintro e w5 ⟨rfl, hb5⟩
      have k5 : Below w1.heap.size w1 w5 := k4.trans (hb5.mono k4.size)
      clear hb5 k4
      go_wp2_with fail
      refine (D5.out _ (spans_below hs1 k5)).mono ?_
      rintro e w6 ⟨A6, c6, rfl, hb6⟩
      have k6 : Below w1.heap.size w1 w6 := k5.trans (hb6.mono k5.size)
      clear hb6 k5
      go_wp2_with fail
      refine (D6.out _ (spans_below hs1 k6)).mono ?_
      rintro e w7 ⟨rfl, hb7⟩
      have k7 : Below w1.heap.size w1 w7 := k6.trans (hb7.mono k6.size)
      clear hb7 k6
      go_wp2_with fail
      refine (D2.out _ (spans_below hs1 k7)).mono ?_
      rintro e w8 ⟨rfl, hb8⟩
      have k8 : Below w1.heap.size w1 w8 := k7.trans (hb8.mono k7.size)
      clear hb8 k7
      go_wp2_with fail
      refine (D2.out _ (spans_below hs1 k8)).mono ?_
      rintro e w9 ⟨rfl, hb9⟩
      have k9 : Below w1.heap.size w1 w9 := k8.trans (hb9.mono k8.size)
      clear hb9 k8
      go_wp2
      go_roundw
      case rel => exact ⟨k + 1, by omega, by go_num, by rw [Hwt.out]; simp, k9⟩
      case measure => simp [intOf]; omega
    · obtain rfl : k = cs.length := by omega
      rw [List.take_length, ← HS.out]
      have E1 := Lib.hid (fun W (h : Spans W) => wide_rd l (by omega) W h)
      have E2 := Lib.hid (fun W => rwide_calls l W (by omega))
      have E3 := Lib.hid (fun W (h : Spans W) => show_rd l (by omega) W h)
      have E4 := Lib.hid (fun W => rshow_calls l W (by omega))
      generalize wideL l = y at *
      generalize showL l = sh at *
      have hyy : ((y : Int) == (y : Int)) = true := by simp
      have hss : ((sm : Int) == (sm : Int)) = true := by simp
      go_wp2_with fail
      refine (walive_calls _ (spans_below hs1 hbel)).mono ?_
      rintro e w2 ⟨rfl, hb2⟩
      have k2 : Below w1.heap.size w1 w2 := hbel.trans (hb2.mono hbel.size)
      clear hb2 hbel
      go_wp2_with fail
      refine (HZ1.out _ (spans_below hs1 k2)).mono ?_
      rintro e w3 ⟨rfl, hb3⟩
      have k3 : Below w1.heap.size w1 w3 := k2.trans (hb3.mono k2.size)
      clear hb3 k2
      go_wp2_with fail
      refine (HZ2.out _).mono ?_
      rintro e w4 ⟨rfl, hb4⟩
      have k4 : Below w1.heap.size w1 w4 := k3.trans (hb4.mono k3.size)
      clear hb4 k3
      go_wp2_with fail
      refine (E1.out _ (spans_below hs1 k4)).mono ?_
      rintro e w5 ⟨rfl, hb5⟩
      have k5 : Below w1.heap.size w1 w5 := k4.trans (hb5.mono k4.size)
      clear hb5 k4
      go_wp2_with fail
      refine (E2.out _).mono ?_
      rintro e w6 ⟨rfl, hb6⟩
      have k6 : Below w1.heap.size w1 w6 := k5.trans (hb6.mono k5.size)
      clear hb6 k5
      go_wp2_with fail
      refine (E3.out _ (spans_below hs1 k6)).mono ?_
      rintro e w7 ⟨rfl, hb7⟩
      have k7 : Below w1.heap.size w1 w7 := k6.trans (hb7.mono k6.size)
      clear hb7 k6
      go_wp2_with fail
      refine (E4.out _).mono ?_
      rintro e w8 ⟨rfl, hb8⟩
      have k8 : Below w1.heap.size w1 w8 := k7.trans (hb8.mono k7.size)
      clear hb8 k7
      go_wp2
      go_ret
      exact ⟨by first | rfl | simp, Hb1.out.trans (k8.mono hz1)⟩
theorem lshows_calls (s : ByteArray) (w : World) (hm : s.size ≤ 9223372036854775807) (hsp : Spans w) :
    Calls Tryd.prog 5 #[.string s] w fun e w' => e = .returned (.bool true) ∧ Below w.heap.size w w' :=
  lshows_list s.data.toList w (by rw [← Lib.size_eq]; exact hm) hsp
end Go.Proofs.YtfoiihopalcioaaDoor
