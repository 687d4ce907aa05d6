/-
  The walk of WidthSums.
-/
import Derived.Test.YtfoiihopalcioaaDoorWClean
namespace Go.Proofs.YtfoiihopalcioaaDoor
open Go Go.RowKit

set_option maxHeartbeats 8000000 in
theorem lsums_list (a b : List UInt8) (w : World) (hma : a.length ≤ 9223372036854775807) (hmb : b.length ≤ 9223372036854775807) (hsp : Spans w) :
    Calls Tryd.prog 9 #[.string (bs a), .string (bs b)] w fun e w' => e = .returned (.bool true) ∧ Below w.heap.size w w' := by
  have hsz := bs_size a
  have hszb := bs_size b
  by_cases hbig : 500 < a.length
  · have hcon := Lib.hid (walive_calls w hsp)
    clear hsp
    go_enter Tryd.func9, Tryd.ntmps9
    go_wp2_with fail
    refine hcon.out.mono ?_
    rintro e w' ⟨rfl, h⟩
    go_wp2
    go_ret
    exact ⟨rfl, h⟩
  by_cases hbig2 : 500 < b.length
  · have hcon := Lib.hid (walive_calls w hsp)
    clear hsp
    go_enter Tryd.func9, Tryd.ntmps9
    go_wp2_with fail
    refine hcon.out.mono ?_
    rintro e w' ⟨rfl, h⟩
    go_wp2
    go_ret
    exact ⟨rfl, h⟩
  have C1 := Lib.hid (rclean_str a (by omega) w)
  have C2 := Lib.hid (fun W => rclean_str b (by omega) W)
  have V1 := conv_bs a
  have V2 := conv_bs b
  have hla := clean_length a
  have hlb := clean_length b
  have HJ := Lib.hid (sum_dot a (cleanL b))
  have hadd1 : ∀ W, (Op.stringOp .add ⟨#[46]⟩ (bs (cleanL b))).run Tryd.prog W = .ok (.string (bs (46 :: cleanL b))) W := add_bs Tryd.prog [46] (cleanL b) (by simp; omega)
  have hs1 := sumL_le (cleanL a)
  have hs2 := sumL_le (46 :: cleanL b)
  have hlx : (46 :: cleanL b).length ≤ 2001 := by simp; omega
  have hlxy : (cleanL a ++ 46 :: cleanL b).length ≤ 4001 := by simp; omega
  have hadd2 := add_bs Tryd.prog (cleanL a) (46 :: cleanL b) (by omega)
  have H1 := Lib.hid (fun W (h : Spans W) => cut_rd (cleanL a) (by omega) W h)
  have Z1 := Lib.hid (fun W (h : Spans W) => sum_rd (cleanL a) (by omega) W h)
  have Z2 := Lib.hid (fun W (h : Spans W) => sum_rd (46 :: cleanL b) (by omega) W h)
  have Z3 := Lib.hid (fun W (h : Spans W) => sum_rd (cleanL a ++ 46 :: cleanL b) (by omega) W h)
  have HG := Lib.hid (cut_getD (cleanL a))
  have hcl := cutL_length (cleanL a)
  have HS : Hid (sumL (cleanL a) = wides (cutL (cleanL a))) := Lib.hid rfl
  generalize cutL (cleanL a) = cs at *
  generalize sumL (cleanL a) = sa at *
  generalize sumL (cleanL a ++ 46 :: cleanL b) = sab at *
  generalize sumL (46 :: cleanL b) = sb at *
  generalize cleanL a ++ 46 :: cleanL b = xy at *
  generalize 46 :: cleanL b = y at *
  generalize cleanL a = x at *
  generalize cleanL b = cb at *
  go_enter Tryd.func9, Tryd.ntmps9
  go_wp2_with fail
  refine C1.out.mono ?_
  rintro e w1 ⟨A1, c1, rfl, hB1, hb1⟩
  have U1 := conv_str hB1 c1
  clear hB1
  go_wp2_with fail
  clear U1
  refine (C2.out _).mono ?_
  rintro e w2 ⟨A2, c2, rfl, hB2, hb2⟩
  have U2 := conv_str hB2 c2
  have k2 : Below w.heap.size w w2 := hb1.trans (hb2.mono hb1.size)
  clear hB2 hb1 hb2 C1 C2
  go_wp2_with fail
  clear U2 V1 V2 hadd1
  refine (H1.out _ (spans_below hsp k2)).mono ?_
  rintro e w3 ⟨A3, c3, rfl, hR3, hb3⟩
  have k3 : Below w.heap.size w w3 := k2.trans (hb3.mono k2.size)
  have HR3 := Lib.hid hR3
  have hs3 := spans_below hsp k3
  have K3 := Lib.hid k3
  have hz3 := k3.size
  clear hR3 hb3 k2 k3 H1
  go_wp2_with fail
  go_loopw [7, 31] (fun v7 v31 wr => ∃ k : Nat, k ≤ cs.length ∧ v31 = .int .i64 (k : Int) ∧ v7 = .int .i64 (wides (cs.take k) : Int) ∧ Below w3.heap.size w3 wr) (fun _ v31 _ => cs.length - (intOf v31).toNat)
  case atStart => exact ⟨0, by omega, rfl, rfl, Below.refl _ _⟩
  case round =>
    obtain ⟨k, hk, rfl, rfl, hbel⟩ := hrel
    by_cases hlt : k < cs.length
    · obtain ⟨g, o, rfl, hg, hc⟩ := rdS_at (HR3.out.below hbel) (by omega)
      have ck := hc k hlt
      have Hwt := Lib.hid (wides_take cs k hlt)
      have hw1 := wides_le (cs.take k)
      rw [List.length_take] at hw1
      have hw2 := wideL_le (cs.getD k [])
      have hgk := HG.out k
      have D3 := Lib.hid (fun W => rwide_calls (cs.getD k []) W (by omega))
      clear hc
      generalize wideL (cs.getD k []) = q at *
      generalize wides (cs.take k) = z at *
      generalize cs.getD k [] = cK at *
      have hwr : IntKind.i64.wrap ((z : Int) + (q : Int)) = (z : Int) + (q : Int) := IntWalk.i64_in _ (by omega)
      go_wp2_with fail
      refine (D3.out _).mono ?_
      rintro e w4 ⟨rfl, hb4⟩
      have k4 : Below w3.heap.size w3 w4 := hbel.trans (hb4.mono hbel.size)
      clear hb4
      go_wp2
      go_roundw
      case rel => exact ⟨k + 1, by omega, by go_num, by rw [Hwt.out]; simp, k4⟩
      case measure => simp [intOf]; omega
    · obtain rfl : k = cs.length := by omega
      rw [List.take_length, ← HS.out]
      have hwr : IntKind.i64.wrap ((sa : Int) + (sb : Int)) = (sa : Int) + (sb : Int) := IntWalk.i64_in _ (by omega)
      have haa : ((sa : Int) == (sa : Int)) = true := by simp
      have hab : ((sab : Int) == (sa : Int) + (sb : Int)) = true := by rw [beq_iff_eq, HJ.out]; simp
      go_wp2_with fail
      refine (walive_calls _ (spans_below hs3 hbel)).mono ?_
      rintro e w4 ⟨rfl, hb4⟩
      have k4 : Below w3.heap.size w3 w4 := hbel.trans (hb4.mono hbel.size)
      clear hb4 hbel
      go_wp2_with fail
      refine (Z1.out _ (spans_below hs3 k4)).mono ?_
      rintro e w5 ⟨rfl, hb5⟩
      have k5 : Below w3.heap.size w3 w5 := k4.trans (hb5.mono k4.size)
      clear hb5 k4
      go_wp2_with fail
      refine (Z3.out _ (spans_below hs3 k5)).mono ?_
      rintro e w6 ⟨rfl, hb6⟩
      have k6 : Below w3.heap.size w3 w6 := k5.trans (hb6.mono k5.size)
      clear hb6 k5
      go_wp2_with fail
      refine (Z1.out _ (spans_below hs3 k6)).mono ?_
      rintro e w7 ⟨rfl, hb7⟩
      have k7 : Below w3.heap.size w3 w7 := k6.trans (hb7.mono k6.size)
      clear hb7 k6
      go_wp2_with fail
      refine (Z2.out _ (spans_below hs3 k7)).mono ?_
      rintro e w8 ⟨rfl, hb8⟩
      have k8 : Below w3.heap.size w3 w8 := k7.trans (hb8.mono k7.size)
      clear hb8 k7
      go_wp2
      go_ret
      exact ⟨by first | rfl | simp, K3.out.trans (k8.mono hz3)⟩
theorem lsums_calls (s t : ByteArray) (w : World) (hm : s.size ≤ 9223372036854775807) (hm2 : t.size ≤ 9223372036854775807) (hsp : Spans w) :
    Calls Tryd.prog 9 #[.string s, .string t] w fun e w' => e = .returned (.bool true) ∧ Below w.heap.size w w' :=
  lsums_list s.data.toList t.data.toList w (by rw [← Lib.size_eq]; exact hm) (by rw [← Lib.size_eq]; exact hm2) hsp
end Go.Proofs.YtfoiihopalcioaaDoor
