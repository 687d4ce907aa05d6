/-
  The walk of WidthCuts.
-/
import Derived.Test.YtfoiihopalcioaaDoorWRd
namespace Go.Proofs.YtfoiihopalcioaaDoor
open Go Go.RowKit

theorem flat_take (cs : List (List UInt8)) (k : Nat) (h : k < cs.length) : (cs.take (k + 1)).flatten = (cs.take k).flatten ++ cs.getD k [] := by
  have e : cs.take (k + 1) = cs.take k ++ [cs.getD k []] := by
    rw [List.take_succ_eq_append_getElem h]; simp [List.getD, h]
  rw [e]; simp

set_option maxHeartbeats 4000000 in
theorem lcuts_list (l : List UInt8) (w : World) (hm : l.length ≤ 9223372036854775807) (hsp : Spans w) :
    Calls Tryd.prog 4 #[.string (bs l)] w fun e w' => e = .returned (.bool true) ∧ Below w.heap.size w w' := by
  have hsz := bs_size l
  by_cases hbig : 1000 < l.length
  · have hcon := Lib.hid (walive_calls w hsp)
    clear hsp
    go_enter Tryd.func4, Tryd.ntmps4
    go_wp2_with fail
    refine hcon.out.mono ?_
    rintro e w' ⟨rfl, h⟩
    go_wp2
    go_ret
    exact ⟨rfl, h⟩
  have H1 := Lib.hid (fun W (h : Spans W) => cut_rd l (by omega) W h)
  have H2 := Lib.hid (fun W (h : Spans W) => bounds_rd l (by omega) W h)
  have H3 := Lib.hid (fun W => rbounds_rd l (by omega) W)
  have H4 := Lib.hid (fun W => rcut_rd l (by omega) W)
  have hcl := cutL_length l
  have hB1 : (boundsL l).length = (cutL l).length + 1 := bnd_length 0 _
  have HB2 : Hid (∀ k, k ≤ (cutL l).length → (boundsL l).getD k 0 = ((cutL l).take k).flatten.length) := Lib.hid fun k hk => by
    have := bnd_getD 0 (cutL l) k hk
    rw [Nat.zero_add] at this
    exact this
  have HB3 : Hid ((cutL l).flatten = l) := Lib.hid (cutL_flatten l)
  generalize boundsL l = B at *
  generalize cutL l = cs at *
  go_enter Tryd.func4, Tryd.ntmps4
  go_wp2_with fail
  refine (H1.out _ hsp).mono ?_
  rintro e w1 ⟨A1, c1, rfl, hR1, hb1⟩
  go_wp2_with fail
  refine (H2.out _ (spans_below hsp hb1)).mono ?_
  rintro e w2 ⟨A2, c2, rfl, hR2, hb2⟩
  go_wp2_with fail
  refine (H3.out _).mono ?_
  rintro e w3 ⟨A3, c3, rfl, hR3, hb3⟩
  go_wp2_with fail
  refine (H4.out _).mono ?_
  rintro e w4 ⟨A4, c4, rfl, hR4, hb4⟩
  go_wp2_with fail
  refine (sames_rd A1 A4 c1 c4 cs w4 (((hR1.below hb2).below hb3).below hb4) hR4 (by omega)).mono ?_
  rintro e w5 ⟨rfl, hb5⟩
  have k5 : Below w.heap.size w w5 := by
    have k2 := hb1.trans (hb2.mono hb1.size)
    have k3 := k2.trans (hb3.mono k2.size)
    have k4 := k3.trans (hb4.mono k3.size)
    exact k4.trans (hb5.mono k4.size)
  have HR1 := Lib.hid ((((hR1.below hb2).below hb3).below hb4).below hb5)
  have HR2 := Lib.hid (((hR2.below hb3).below hb4).below hb5)
  have HR3 := Lib.hid ((hR3.below hb4).below hb5)
  have K5 := Lib.hid k5
  have hs5 := spans_below hsp k5
  have HS5 := Lib.hid hs5
  clear hR1 hR2 hR3 hR4 hb1 hb2 hb3 hb4 hb5 k5 hs5 hsp H1 H2 H3 H4
  have hne : ((B.length : Int) != (B.length : Int)) = false := by simp
  go_wp2_with fail
  clear hne
  go_loopw [6, 33] (fun v6 v33 wr => ∃ k : Nat, k ≤ cs.length ∧ v33 = .int .i64 (k : Int) ∧ v6 = .string (bs (cs.take k).flatten) ∧ wr = w5) (fun _ v33 _ => cs.length - (intOf v33).toNat)
  case atStart => exact ⟨0, by omega, rfl, rfl, rfl⟩
  case round =>
    obtain ⟨k, hk, rfl, rfl, rfl⟩ := hrel
    by_cases hlt : k < cs.length
    · obtain ⟨g, o, rfl, _, hc⟩ := rdS_at HR1.out (by omega)
      obtain ⟨g2, o2, rfl, _, hc2⟩ := HR2.out (by omega)
      have ck := hc k hlt
      have ck2 := hc2 k (by omega)
      rw [HB2.out k (by omega)] at ck2
      have hfl := flat_take cs k hlt
      have hlen : (cs.take k).flatten.length + (cs.getD k []).length ≤ l.length := by
        have h1 : (cs.take (k + 1)).flatten.length + (cs.drop (k + 1)).flatten.length = l.length := by
          rw [← List.length_append, ← List.flatten_append, List.take_append_drop, HB3.out]
        rw [hfl, List.length_append] at h1
        omega
      have hadd := add_bs Tryd.prog (cs.take k).flatten (cs.getD k []) (by omega)
      have hz := bs_size (cs.take k).flatten
      have Hfl := Lib.hid hfl
      have hkB : (k : Int) < (B.length : Int) := by omega
      clear hc hc2 hfl
      generalize cs.getD k [] = cK at *
      generalize (cs.take k).flatten = fl at *
      have hnn : ((fl.length : Int) != (fl.length : Int)) = false := by simp
      go_wp2
      go_roundw
      case rel => exact ⟨k + 1, by omega, by go_num, by rw [Hfl.out], by first | rfl | trivial⟩
      case measure => simp [intOf]; omega
    · obtain rfl : k = cs.length := by omega
      rw [List.take_length, HB3.out]
      obtain ⟨g2, o2, rfl, hg2, hc2⟩ := HR2.out (by omega)
      obtain ⟨g3, o3, rfl, hg3, hc3⟩ := HR3.out (by omega)
      have e2 := hc2 cs.length (by omega)
      have e3 := hc3 0 (by omega)
      rw [HB2.out _ (Nat.le_refl _), List.take_length, HB3.out] at e2
      rw [HB2.out 0 (by omega)] at e3
      have Hal := Lib.hid (walive_calls _ HS5.out)
      clear hc2 hc3
      go_wp2_with fail
      refine Hal.out.mono ?_
      rintro e w6 ⟨rfl, hb6⟩
      have f2 : w6.cell? ⟨g2, o2 + cs.length, none⟩ = some (.int .i64 (l.length : Int)) := by rw [hb6.cell (p := ⟨g2, o2 + cs.length, none⟩) hg2]; exact e2
      have f3 : w6.cell? ⟨g3, o3, none⟩ = some (.int .i64 0) := by rw [hb6.cell (p := ⟨g3, o3, none⟩) hg3]; exact e3
      have hBi : (B.length : Int) - 1 = (cs.length : Int) := by omega
      have hBw : IntKind.i64.wrap ((B.length : Int) - 1) = (cs.length : Int) := by rw [hBi]; exact IntWalk.i64_in _ (by omega)
      have hkB : (cs.length : Int) < (B.length : Int) := by omega
      have hll : ((l.length : Int) == (l.length : Int)) = true := by simp
      clear e2 e3
      go_wp2
      go_ret
      exact ⟨by first | rfl | simp, K5.out.trans (hb6.mono K5.out.size)⟩
theorem lcuts_calls (s : ByteArray) (w : World) (hm : s.size ≤ 9223372036854775807) (hsp : Spans w) :
    Calls Tryd.prog 4 #[.string s] w fun e w' => e = .returned (.bool true) ∧ Below w.heap.size w w' :=
  lcuts_list s.data.toList w (by rw [← Lib.size_eq]; exact hm) hsp
end Go.Proofs.YtfoiihopalcioaaDoor
