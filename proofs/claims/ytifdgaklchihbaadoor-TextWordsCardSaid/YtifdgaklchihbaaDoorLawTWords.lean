/-
  The walk of TextWords.
-/
import Derived.Test.YtifdgaklchihbaaDoorTAlive
import Derived.Test.YtifdgaklchihbaaDoorFew
namespace Go.Proofs.YtifdgaklchihbaaDoor
open Go Go.RowKit

/-- Where WordRight, and WordLeft, come to from cluster number k: further, till the end. -/
theorem wr_step {m : List UInt8} {k : Nat} (hk : k ≤ (cutL m).length) : ∃ k', k ≤ k' ∧ k' ≤ (cutL m).length ∧ wrL m (pos (cutL m) k) = pos (cutL m) k' ∧ (k < (cutL m).length → k < k') := by
  refine ⟨k + thrK ((cutL m).drop k), by omega, ?_, wrL_pos, fun h => ?_⟩
  · have := thrK_le ((cutL m).drop k)
    rw [List.length_drop] at this
    omega
  · have := thrK_pos ((cutL m).drop k) (by intro e; have := congrArg List.length e; rw [List.length_drop, List.length_nil] at this; omega)
    omega
theorem wl_step {m : List UInt8} (h : PlainP m) {k : Nat} (hk : k ≤ (cutL m).length) : ∃ k', k' ≤ k ∧ wlL m (pos (cutL m) k) = pos (cutL m) k' ∧ (0 < k → k' < k) := by
  refine ⟨k - thrK ((cutL m).take k).reverse, by omega, wlL_pos h hk, fun h0 => ?_⟩
  have := thrK_pos ((cutL m).take k).reverse (by intro e; have := congrArg List.length e; rw [List.length_reverse, List.length_take, List.length_nil] at this; omega)
  omega
set_option maxHeartbeats 1000000 in
theorem lwords_big (s : ByteArray) (w : World) (hs : s.size ≤ 9223372036854775807) (hb : 1500 < s.size) (hsp : Spans w) :
    Calls Tryd.prog 9 #[.string s] w fun e w' => e = .returned (.bool true) ∧ Below w.heap.size w w' := by
  have HF := few_one s w hs
  rw [decide_eq_false (show ¬ s.size ≤ 1500 by omega)] at HF
  have HFew := Lib.hid HF
  have k0 : Below w.heap.size w (w.alloc (.cells #[.string s] 9)) := (Below.refl _ w).alloc (Nat.le_refl _) _
  have hcon := Lib.hid (talive_calls _ (spans_below hsp k0))
  clear HF hsp
  go_enter Tryd.func9, Tryd.ntmps9
  go_wp2_with fail
  refine HFew.out.mono ?_
  rintro e w1 ⟨rfl, rfl⟩
  go_wp2_with fail
  refine hcon.out.mono ?_
  rintro e w2 ⟨rfl, h⟩
  go_wp2
  go_ret
  exact ⟨rfl, k0.trans (h.mono k0.size)⟩


set_option maxHeartbeats 8000000 in
theorem lwords_list (l : List UInt8) (w : World) (hb : l.length ≤ 1500) (hsp : Spans w) :
    Calls Tryd.prog 9 #[.string (bs l)] w fun e w' => e = .returned (.bool true) ∧ Below w.heap.size w w' := by
  have hsz := bs_size l
  have HF := few_one (bs l) w (by omega)
  rw [decide_eq_true (show (bs l).size ≤ 1500 by omega)] at HF
  have HFew := Lib.hid HF
  have k0 : Below w.heap.size w (w.alloc (.cells #[.string (bs l)] 9)) := (Below.refl _ w).alloc (Nat.le_refl _) _
  have HM := Lib.hid (fun W h => make_calls l 0 (by omega) W h)
  rw [mA_zero] at HM
  have hms := mS_len l
  have hP := mS_P l
  have hC := Lib.hid (fun W => rcut_rd (mS l) (by omega) W)
  have hcl := cutL_length (mS l)
  have hlen : (mS l).length = pos (cutL (mS l)) (cutL (mS l)).length := by rw [pos_all _ _ (Nat.le_refl _), cutL_flatten]
  have HWR : Hid (∀ k W, k ≤ (cutL (mS l)).length → Spans W → Calls Tryd.prog 28 #[.string (bs (mS l)), .int .i64 (pos (cutL (mS l)) k : Int)] W fun e W' => e = .returned (.int .i64 (wrL (mS l) (pos (cutL (mS l)) k) : Int)) ∧ Below W.heap.size W W') := Lib.hid fun k W hk h => by
    have hr : Rt (mS l) (pos (cutL (mS l)) k) := ⟨hP, hms, k, hk, rfl⟩
    have h1 := wordRight_calls (mS l) (pos (cutL (mS l)) k : Int) (by omega) W h
    rwa [hr.make.1, hr.make.2] at h1
  have HWL : Hid (∀ k W, k ≤ (cutL (mS l)).length → Spans W → Calls Tryd.prog 27 #[.string (bs (mS l)), .int .i64 (pos (cutL (mS l)) k : Int)] W fun e W' => e = .returned (.int .i64 (wlL (mS l) (pos (cutL (mS l)) k) : Int)) ∧ Below W.heap.size W W') := Lib.hid fun k W hk h => by
    have hr : Rt (mS l) (pos (cutL (mS l)) k) := ⟨hP, hms, k, hk, rfl⟩
    have h1 := wordLeft_calls (mS l) (pos (cutL (mS l)) k : Int) (by omega) W h
    rwa [hr.make.1, hr.make.2] at h1
  have HSR := Lib.hid (fun k (hk : k ≤ (cutL (mS l)).length) => wr_step (m := mS l) hk)
  have HSL := Lib.hid (fun k (hk : k ≤ (cutL (mS l)).length) => wl_step hP hk)
  have hfull := cut_full (mS l)
  have Hsp := Lib.hid hsp
  have hpl : ∀ k, pos (cutL (mS l)) k ≤ (mS l).length := fun k => cut_len_le (mS l) k
  have Hpl := Lib.hid hpl
  have Hlen := Lib.hid hlen
  clear HF hsp hP hlen hpl
  generalize hWR : wrL (mS l) = fr at *
  generalize hWL : wlL (mS l) = fl at *
  generalize cutL (mS l) = cs at *
  generalize mS l = m at *
  clear hWR hWL
  have hszm := bs_size m
  go_enter Tryd.func9, Tryd.ntmps9
  go_wp2_with fail
  refine HFew.out.mono ?_
  rintro e w0 ⟨rfl, rfl⟩
  go_wp2_with fail
  refine (HM.out _ (spans_below Hsp.out k0)).mono ?_
  rintro e w1 ⟨rfl, hb1⟩
  have x1 := Bx.new w1 25 (.string (bs m)) (.int .i64 0)
  have k1 : Below w.heap.size w w1 := k0.trans (hb1.mono k0.size)
  have K1 := Lib.hid (k1.alloc k1.size (.cells #[.string (bs m), .int .i64 0] 25))
  have c10 := x1.c0
  have X1 := Lib.hid x1
  clear x1 k1 hb1 k0
  go_wp2_with fail
  refine (hC.out _).mono ?_
  rintro e w2 ⟨A2, c2, rfl, _, hb2⟩
  have K2 := Lib.hid (K1.out.trans (hb2.mono K1.out.size))
  have X2 := Lib.hid (X1.out.below hb2)
  clear hb2 X1 K1 c10
  go_wp2_with fail
  go_loopw [5, 20] (fun v5 v20 wr => ∃ k q : Nat, v5 = .int .i64 (pos cs k : Int) ∧ v20 = .int .i64 (q : Int) ∧ q ≤ cs.length ∧ k ≤ cs.length ∧ q ≤ k ∧ Below w.heap.size w wr ∧ Bx wr w1.heap.size 25 (.string (bs m)) (.int .i64 0)) (fun _ v20 _ => cs.length - (intOf v20).toNat)
  case atStart => exact ⟨0, 0, rfl, rfl, Nat.zero_le _, Nat.zero_le _, Nat.le_refl _, K2.out, X2.out⟩
  case round =>
    obtain ⟨k, q, rfl, rfl, hq, hk, hqk, hbel, hbx⟩ := hrel
    by_cases hlt : q < cs.length
    · have hd : decide ((q : Int) < (cs.length : Int)) = true := decide_eq_true (by omega)
      have hw1 : IntKind.i64.wrap ((q : Int) + 1) = (q : Int) + 1 := IntWalk.i64_in _ (by omega)
      obtain ⟨k', h1, h2, h3, h4⟩ := HSR.out k hk
      have HC := Lib.hid (HWR.out k wr hk (spans_below Hsp.out hbel))
      rw [h3] at HC
      have cb := hbx.c0
      have hm1 := pos_mono cs h1
      have hple := Hpl.out k'
      have hst : k < cs.length → pos cs k < pos cs k' := fun h => pos_lt hfull (h4 h) h2
      have hend : ¬ k < cs.length → pos cs k = m.length := fun h => by rw [Hlen.out]; congr 1; omega
      have Hk' : Hid (q + 1 ≤ k') := Lib.hid (by
        by_cases h : k < cs.length
        · have := h4 h; omega
        · omega)
      have Hbel := Lib.hid hbel
      have Hbx := Lib.hid hbx
      have H2 := Lib.hid h2
      clear h3 h4 hbel hbx h1 h2
      generalize hp : pos cs k = p at *
      generalize hp' : pos cs k' = p' at *
      have Hp' := Lib.hid hp'
      clear hp hp'
      have hd1 : decide ((p' : Int) < (p : Int)) = false := decide_eq_false (by omega)
      have hN1 : decide (p' < p) = false := decide_eq_false (by omega)
      by_cases hkl : k < cs.length
      · have hpp := hst hkl
        have hd2 : ((p' : Int) == (p : Int)) = false := beq_eq_false_iff_ne.2 (by omega)
        clear hst hend hkl
        go_wp2_with fail
        refine HC.out.mono ?_
        rintro e w5 ⟨rfl, hb5⟩
        have k5 := Hbel.out.trans (hb5.mono Hbel.out.size)
        have x5 := Hbx.out.below hb5
        have c5 := x5.c0
        have K5 := Lib.hid k5
        have X5 := Lib.hid x5
        clear hb5 k5 x5
        go_wp2
        go_roundw
        case rel => exact ⟨k', q + 1, by rw [Hp'.out], by go_num, by omega, H2.out, Hk'.out, K5.out, X5.out⟩
        case measure => simp [intOf]; omega
      · have hpe := hend hkl
        obtain rfl : p = p' := by omega
        have hd3 : decide ((p : Int) < (m.length : Int)) = false := decide_eq_false (by omega)
        have hN3 : decide (p < m.length) = false := decide_eq_false (by omega)
        have Hpe := Lib.hid hpe
        clear hst hend hkl hpe hd1 hm1 hN1
        go_wp2_with fail
        refine HC.out.mono ?_
        rintro e w5 ⟨rfl, hb5⟩
        have k5 := Hbel.out.trans (hb5.mono Hbel.out.size)
        have x5 := Hbx.out.below hb5
        have c5 := x5.c0
        have K5 := Lib.hid k5
        have X5 := Lib.hid x5
        clear hb5 k5 x5
        go_wp2
        go_roundw
        case rel => exact ⟨k', q + 1, by rw [Hp'.out], by go_num, by omega, H2.out, Hk'.out, K5.out, X5.out⟩
        case measure => simp [intOf]; omega
    · have hd : decide ((q : Int) < (cs.length : Int)) = false := decide_eq_false (by omega)
      have hpe : pos cs k = m.length := by rw [Hlen.out]; congr 1; omega
      have hde : ((m.length : Int) != (m.length : Int)) = false := by simp
      rw [hpe]
      have cb := hbx.c0
      have Hbel := Lib.hid hbel
      have Hbx := Lib.hid hbx
      clear hbel hbx hpe
      go_wp2_with fail
      go_loopw [5, 49] (fun v5 v49 wr => ∃ k q : Nat, v5 = .int .i64 (pos cs k : Int) ∧ v49 = .int .i64 (q : Int) ∧ q ≤ cs.length ∧ k + q ≤ cs.length ∧ Below w.heap.size w wr ∧ Bx wr w1.heap.size 25 (.string (bs m)) (.int .i64 0)) (fun _ v49 _ => cs.length - (intOf v49).toNat)
      case atStart => exact ⟨cs.length, 0, by rw [← Hlen.out], rfl, Nat.zero_le _, Nat.le_refl _, Hbel.out, Hbx.out⟩
      case round =>
        clear hq hk hqk hlt hd hde cb
        obtain ⟨k, q, rfl, rfl, hq, hk, hbel, hbx⟩ := hrel
        by_cases hlt : q < cs.length
        · have hd : decide ((q : Int) < (cs.length : Int)) = true := decide_eq_true (by omega)
          have hw1 : IntKind.i64.wrap ((q : Int) + 1) = (q : Int) + 1 := IntWalk.i64_in _ (by omega)
          obtain ⟨k', h1, h3, h4⟩ := HSL.out k (by omega)
          have HC := Lib.hid (HWL.out k wr (by omega) (spans_below Hsp.out hbel))
          rw [h3] at HC
          have cb := hbx.c0
          have hm1 := pos_mono cs h1
          have hst : 0 < k → pos cs k' < pos cs k := fun h => pos_lt hfull (h4 h) (by omega)
          have hend : ¬ 0 < k → pos cs k = 0 := fun h => by rw [show k = 0 by omega]; rfl
          have hple := Hpl.out k
          have Hk' : Hid (k' + (q + 1) ≤ cs.length) := Lib.hid (by
            by_cases h : 0 < k
            · have := h4 h; omega
            · omega)
          have Hbel2 := Lib.hid hbel
          have Hbx2 := Lib.hid hbx
          clear h3 h4 hbel hbx h1
          generalize hp : pos cs k = p at *
          generalize hp' : pos cs k' = p' at *
          have Hp' := Lib.hid hp'
          clear hp hp'
          have hd1 : decide ((p : Int) < (p' : Int)) = false := decide_eq_false (by omega)
          have hN1 : decide (p < p') = false := decide_eq_false (by omega)
          by_cases hkl : 0 < k
          · have hpp := hst hkl
            have hd2 : ((p' : Int) == (p : Int)) = false := beq_eq_false_iff_ne.2 (by omega)
            clear hst hend hkl
            go_wp2_with fail
            refine HC.out.mono ?_
            rintro e w5 ⟨rfl, hb5⟩
            have k5 := Hbel2.out.trans (hb5.mono Hbel2.out.size)
            have x5 := Hbx2.out.below hb5
            have K5 := Lib.hid k5
            have X5 := Lib.hid x5
            clear hb5 k5 x5
            go_wp2
            go_roundw
            case rel => exact ⟨k', q + 1, by rw [Hp'.out], by go_num, by omega, Hk'.out, K5.out, X5.out⟩
            case measure => simp [intOf]; omega
          · have hpe := hend hkl
            obtain rfl : p = p' := by omega
            subst hpe
            clear hst hend hkl hd1 hm1 hN1
            go_wp2_with fail
            refine HC.out.mono ?_
            rintro e w5 ⟨rfl, hb5⟩
            have k5 := Hbel2.out.trans (hb5.mono Hbel2.out.size)
            have x5 := Hbx2.out.below hb5
            have K5 := Lib.hid k5
            have X5 := Lib.hid x5
            clear hb5 k5 x5
            go_wp2
            go_roundw
            case rel => exact ⟨k', q + 1, by rw [Hp'.out]; rfl, by go_num, by omega, Hk'.out, K5.out, X5.out⟩
            case measure => simp [intOf]; omega
        · have hd : decide ((q : Int) < (cs.length : Int)) = false := decide_eq_false (by omega)
          obtain rfl : k = 0 := by omega
          rw [pos_zero]
          have Hbel2 := Lib.hid hbel
          clear hbel hbx
          go_wp2_with fail
          refine (talive_calls _ (spans_below Hsp.out Hbel2.out)).mono ?_
          rintro e wA ⟨rfl, hbA⟩
          have kA := Hbel2.out.trans (hbA.mono Hbel2.out.size)
          go_wp2
          go_ret
          exact ⟨rfl, kA⟩
theorem lwords_calls (s : ByteArray) (w : World) (hs : s.size ≤ 9223372036854775807) (hsp : Spans w) :
    Calls Tryd.prog 9 #[.string s] w fun e w' => e = .returned (.bool true) ∧ Below w.heap.size w w' := by
  by_cases h : 1500 < s.size
  · exact lwords_big s w hs h hsp
  · exact lwords_list s.data.toList w (by rw [← Lib.size_eq]; omega) hsp
end Go.Proofs.YtifdgaklchihbaaDoor
