/-
  The walk of FileDown (layer 10).
-/
import Derived.Test.YtaeiffpdnlejbaaPa25
namespace Go.Proofs.Ytaeiffpdnlejbaa
open Go Go.RowKit
set_option maxRecDepth 100000

theorem arm_at (n : Int) (h2 : n ≤ 9223372036854775807) : (FS.new.arm n).At 0 := ⟨FS.At.new.ok.arm _, Nat.le_refl _, Nat.le_refl _, fun _ h => (by cases h), by show max n (-1) ≤ _; omega, by show (-1 : Int) ≤ _; omega⟩
theorem gt_dec (a b : Int) : decide (a > b) = decide (b < a) := rfl
set_option maxHeartbeats 8000000 in
theorem fdown_law (A : Option Addr) (c : Nat) (xs : List OpG) (n : Int) (w : World) (hR : RdO10 w A xs) (hl : xs.length ≤ 9223372036854775807) (hn1 : -9223372036854775808 ≤ n) (hn2 : n ≤ 9223372036854775807) :
    Calls Try.prog 7 #[.slice A xs.length c, .int .i64 n] w fun e w' => e = .returned (.bool true) ∧ Below w.heap.size w w' := by
  have Hfew := Lib.hid (few10_calls A c xs w hR hl)
  by_cases hf : (xs.length ≤ 80 ∧ totG xs ≤ 8000) ∧ n ≤ 1000
  · obtain ⟨hf, hn3⟩ := hf
    have hdt : decide (xs.length ≤ 80 ∧ totG xs ≤ 8000) = true := decide_eq_true hf
    rw [hdt] at Hfew
    have HO := Lib.hid hR
    have Hf := Lib.hid hf
    clear hdt hf hR
    go_enter Try.func7, Try.ntmps7
    go_wp2_with fail
    refine Hfew.out.mono ?_
    rintro e w1 ⟨rfl, hb1⟩
    have HB1 := Lib.hid hb1
    clear hb1 Hfew
    go_wp2_with fail
    refine (fnew_calls w1).mono ?_
    rintro e w2 ⟨b, rfl, hin⟩
    have HIn := Lib.hid hin
    clear hin
    go_wp2_with fail
    refine (in_arm HIn.out (FS.At.new.fit (by omega)) n hn1 hn2).mono ?_
    rintro e w3 ⟨rfl, hin⟩
    have HI3 := Lib.hid hin
    clear hin HIn
    go_wp2_with fail
    go_loopw [30] (fun v30 wr => ∃ (k : Nat) (S : FS), k ≤ xs.length ∧ v30 = .int .i64 (k : Int) ∧ Hid (FileIn w1 wr b S) ∧ Hid (S.At k) ∧ Hid (S.Armed n)) (fun v30 _ => xs.length - (intOf v30).toNat)
    case atStart => exact ⟨0, FS.new.arm n, Nat.zero_le _, rfl, HI3, Lib.hid (arm_at n hn2), Lib.hid (FS.Armed.new n)⟩
    case round =>
      obtain ⟨k, S, hk, rfl, HI, HAt, HAr⟩ := hrel
      clear HI3
      by_cases hlt : k < xs.length
      · have hbw : Below w.heap.size w wr := HB1.out.trans (HI.out.bel.mono HB1.out.size)
        have hin : OpIn w1 (xs.getD k OpG.none_) := by
          obtain ⟨_, _, _, _, _, h⟩ := (HO.out.below HB1.out).at_ hlt
          exact h
        obtain ⟨g, o, rfl, hg, hcs, _⟩ := (HO.out.below hbw).at_ hlt
        have hsm : (xs.getD k OpG.none_).len ≤ 8000 := Nat.le_trans (totG_at hlt) Hf.out.2
        have hk80 : k ≤ 80 := by have := Hf.out.1; omega
        have hkk : (k : Int) < (xs.length : Int) := by omega
        have hx80 : (xs.length : Int) ≤ 80 := by have := Hf.out.1; omega
        have c0 := hcs 0 _ rfl
        have c1 := hcs 1 _ rfl
        have c2 := hcs 2 _ rfl
        have c3 := hcs 3 _ rfl
        have c4 := hcs 4 _ rfl
        have c5 := hcs 5 _ rfl
        rw [Nat.add_zero] at c0
        have HIn := Lib.hid hin
        have HSm := Lib.hid hsm
        have Hk80 := Lib.hid hk80
        clear hcs hin hbw hsm hk80
        generalize xs.getD k OpG.none_ = e at *
        have hob := BxA.new wr 34 (opgC e)
        have HI1 := Lib.hid (HI.out.below objFile ((Below.refl _ wr).alloc (Nat.le_refl _) (.cells (opgC e).toArray 34)))
        unfold opgC at hob HI1
        have HOb := Lib.hid hob
        have z0 := hob.c 0 rfl
        have ea : ([Value.int .i64 e.o.k, .string e.o.n, .string e.o.t, .slice e.BA e.o.b.length e.bc, .int .i64 e.o.i, .slice e.KA e.o.ks.length e.kc]).toArray = #[Value.int .i64 e.o.k, .string e.o.n, .string e.o.t, .slice e.BA e.o.b.length e.bc, .int .i64 e.o.i, .slice e.KA e.o.ks.length e.kc] := rfl
        rw [ea] at z0
        clear HI hob ea
        by_cases hk4 : 0 ≤ e.o.k ∧ e.o.k ≤ 4
        · have t1 : decide (e.o.k < 0) = false := decide_eq_false (by omega)
          have t2 : decide (4 < e.o.k) = false := decide_eq_false (by omega)
          have Hk4 := Lib.hid hk4
          clear hk4
          have hfit : Hid S.Fit := Lib.hid (HAt.out.fit (by have := Hk80.out; omega))
          go_wp2_with fail
          refine (in_down HI1.out hfit.out).mono ?_
          rintro e5 w5 ⟨rfl, hb, hin⟩
          have HI5 := Lib.hid hin
          have HO5 := Lib.hid (HOb.out.below hb)
          clear hb hin HI1 HOb z0 c0 c1 c2 c3 c4 c5 t1 t2
          go_wp2_with fail
          refine (in_ops HI5.out hfit.out).mono ?_
          rintro e6 w6 ⟨rfl, hb, hin⟩
          have HI6 := Lib.hid hin
          have HO6 := Lib.hid (HO5.out.below hb)
          clear hb hin HI5 HO5
          go_wp2_with fail
          refine (in_names HI6.out hfit.out).mono ?_
          rintro e7 w7 ⟨A7, c7, rfl, hb, hin⟩
          have HI7 := Lib.hid hin
          have HO7 := Lib.hid (HO6.out.below hb)
          clear hb hin HI6 HO6
          go_wp2_with fail
          refine (in_pending HI7.out hfit.out).mono ?_
          rintro e8 w8 ⟨rfl, hb, hin⟩
          have HI8 := Lib.hid hin
          have ho8 := HO7.out.below hb
          have z0 := ho8.c 0 rfl
          have z1 := ho8.c 1 rfl
          have z2 := ho8.c 2 rfl
          have z3 := ho8.c 3 rfl
          have z4 := ho8.c 4 rfl
          have z5 := ho8.c 5 rfl
          clear hb hin HI7 HO7 ho8
          have HDs := Lib.hid (in_does HI8.out HAt.out (by have := Hk80.out; omega) HIn.out HSm.out Hk4.out.1 Hk4.out.2)
          obtain ⟨HAr2, Hd1, Hd2⟩ := HAr.out.does e.o Hk4.out.1 Hk4.out.2
          have HAt2 := Lib.hid (HAt.out.does e.o HIn.out.i2)
          have hfit2 : Hid (doF S e.o).1.Fit := Lib.hid (HAt2.out.fit (by have := Hk80.out; omega))
          have HAr2' := Lib.hid HAr2
          have Hdn := Lib.hid HAr.out.down
          have Hd1' := Lib.hid Hd1
          have Hd2' := Lib.hid Hd2
          clear HAr2 Hd1 Hd2 HI8 HAt HAr HIn HSm
          unfold opgC at HDs
          go_wp2_with fail
          refine HDs.out.mono ?_
          rintro e9 w9 ⟨rfl, hin⟩
          have HI9 := Lib.hid hin
          clear hin HDs z0 z1 z2 z3 z4 z5
          cases hd : S.down with
          | true =>
            have h100 := Hd1'.out hd
            rw [h100] at HI9 hfit2 HAt2 HAr2' ⊢
            have hdn := Hdn.out
            rw [hd] at hdn
            have HD := Lib.hid hd
            have h3 : 0 ≤ n ∧ n < (S.ops : Int) := by simpa using hdn.symm
            clear Hd1' Hd2' hd hdn h100 Hdn
            have t3 : ((S.ops : Int) != (S.ops : Int)) = false := bne_self_eq_false _
            have t4 : ((S.l.length : Int) != (S.l.length : Int)) = false := bne_self_eq_false _
            have t5 : ((S.pend : Int) != (S.pend : Int)) = false := bne_self_eq_false _
            have d1 : decide (0 ≤ n) = true := decide_eq_true h3.1
            have d2 : decide (n < (S.ops : Int)) = true := decide_eq_true h3.2
            go_wp2_with fail
            refine (in_ops HI9.out hfit2.out).mono ?_
            rintro e10 w10 ⟨rfl, hb, hin⟩
            have HI10 := Lib.hid hin
            clear hb hin HI9
            go_wp2_with fail
            refine (in_names HI10.out hfit2.out).mono ?_
            rintro e11 w11 ⟨A11, c11, rfl, hb, hin⟩
            have HI11 := Lib.hid hin
            clear hb hin HI10
            go_wp2_with fail
            refine (in_pending HI11.out hfit2.out).mono ?_
            rintro e12 w12 ⟨rfl, hb, hin⟩
            have HI12 := Lib.hid hin
            clear hb hin HI11
            go_wp2_with fail
            refine (in_down HI12.out hfit2.out).mono ?_
            rintro e13 w13 ⟨rfl, hb, hin⟩
            have HI13 := Lib.hid hin
            clear hb hin HI12
            rw [HD.out]
            go_wp2_with fail
            refine (in_ops HI13.out hfit2.out).mono ?_
            rintro e14 w14 ⟨rfl, hb, hin⟩
            have HI14 := Lib.hid hin
            clear hb hin HI13
            go_wp2_with fail
            go_roundw
            case rel => exact ⟨k + 1, S, by omega, by go_num, HI14, HAt2, HAr2'⟩
            case measure => simp [intOf]; omega
          | false =>
            have hz2 := Hd2'.out hd
            have hdn2 := HAr2'.out.down
            clear Hd1' Hd2' hd Hdn
            obtain ⟨S2, hS2⟩ : ∃ S2, S2 = (doF S e.o).1 := ⟨_, rfl⟩
            obtain ⟨z2, hz⟩ : ∃ z2, z2 = (doF S e.o).2 := ⟨_, rfl⟩
            rw [← hS2] at HI9 hfit2 HAt2 HAr2' hz2 hdn2
            rw [← hz] at hz2 ⊢
            clear hS2 hz
            cases hd2 : S2.down with
            | true =>
              rw [hd2] at hz2 hdn2
              have h3 : 0 ≤ n ∧ n < (S2.ops : Int) := by simpa using hdn2.symm
              have hz3 : z2 = 100 := of_decide_eq_true hz2.symm
              have HD := Lib.hid hd2
              subst hz3
              have d1 : decide (0 ≤ n) = true := decide_eq_true h3.1
              have d2 : decide (n < (S2.ops : Int)) = true := decide_eq_true h3.2
              clear hd2 hz2 hdn2
              go_wp2_with fail
              refine (in_down HI9.out hfit2.out).mono ?_
              rintro e10 w10 ⟨rfl, hb, hin⟩
              have HI10 := Lib.hid hin
              clear hb hin HI9
              rw [HD.out]
              go_wp2_with fail
              refine (in_ops HI10.out hfit2.out).mono ?_
              rintro e11 w11 ⟨rfl, hb, hin⟩
              have HI11 := Lib.hid hin
              clear hb hin HI10
              go_wp2_with fail
              refine (in_down HI11.out hfit2.out).mono ?_
              rintro e12 w12 ⟨rfl, hb, hin⟩
              have HI12 := Lib.hid hin
              clear hb hin HI11
              rw [HD.out]
              go_wp2_with fail
              go_roundw
              case rel => exact ⟨k + 1, S2, by omega, by go_num, HI12, HAt2, HAr2'⟩
              case measure => simp [intOf]; omega
            | false =>
              rw [hd2] at hz2 hdn2
              have hz3 : (z2 == 100) = false := by
                have := of_decide_eq_false hz2.symm
                simpa using this
              have HD := Lib.hid hd2
              by_cases h0 : 0 ≤ n
              · have d1 : decide (0 ≤ n) = true := decide_eq_true h0
                have d2 : decide (n < (S2.ops : Int)) = false := by
                  rw [d1, Bool.true_and] at hdn2
                  exact hdn2.symm
                clear hd2 hz2 hdn2
                go_wp2_with fail
                refine (in_down HI9.out hfit2.out).mono ?_
                rintro e10 w10 ⟨rfl, hb, hin⟩
                have HI10 := Lib.hid hin
                clear hb hin HI9
                rw [HD.out]
                go_wp2_with fail
                refine (in_ops HI10.out hfit2.out).mono ?_
                rintro e11 w11 ⟨rfl, hb, hin⟩
                have HI11 := Lib.hid hin
                clear hb hin HI10
                go_wp2_with fail
                refine (in_down HI11.out hfit2.out).mono ?_
                rintro e12 w12 ⟨rfl, hb, hin⟩
                have HI12 := Lib.hid hin
                clear hb hin HI11
                rw [HD.out]
                go_wp2_with fail
                go_roundw
                case rel => exact ⟨k + 1, S2, by omega, by go_num, HI12, HAt2, HAr2'⟩
                case measure => simp [intOf]; omega
              · have d1 : decide (0 ≤ n) = false := decide_eq_false h0
                clear hd2 hz2 hdn2
                go_wp2_with fail
                refine (in_down HI9.out hfit2.out).mono ?_
                rintro e10 w10 ⟨rfl, hb, hin⟩
                have HI10 := Lib.hid hin
                clear hb hin HI9
                rw [HD.out]
                go_wp2_with fail
                refine (in_down HI10.out hfit2.out).mono ?_
                rintro e11 w11 ⟨rfl, hb, hin⟩
                have HI11 := Lib.hid hin
                clear hb hin HI10
                rw [HD.out]
                go_wp2_with fail
                go_roundw
                case rel => exact ⟨k + 1, S2, by omega, by go_num, HI11, HAt2, HAr2'⟩
                case measure => simp [intOf]; omega
        · have hcase : e.o.k < 0 ∨ (0 ≤ e.o.k ∧ 4 < e.o.k) := by omega
          rcases hcase with h | ⟨h, h'⟩
          · have t1 : decide (e.o.k < 0) = true := decide_eq_true h
            go_wp2_with fail
            go_roundw
            case rel => exact ⟨k + 1, S, by omega, by go_num, HI1, Lib.hid (HAt.out.mono (by omega)), HAr⟩
            case measure => simp [intOf]; omega
          · have t1 : decide (e.o.k < 0) = false := decide_eq_false (by omega)
            have t2 : decide (4 < e.o.k) = true := decide_eq_true h'
            go_wp2_with fail
            go_roundw
            case rel => exact ⟨k + 1, S, by omega, by go_num, HI1, Lib.hid (HAt.out.mono (by omega)), HAr⟩
            case measure => simp [intOf]; omega
      · obtain rfl : k = xs.length := by omega
        have hfit : Hid S.Fit := Lib.hid (HAt.out.fit (by have := Hf.out.1; omega))
        have hfit2 : Hid (S.crash []).Fit := Lib.hid ((HAt.out.crash []).fit (by have := Hf.out.1; omega))
        have hwn : Hid (((S.crash []).write nA []).2 ≠ 100) := Lib.hid ((crash_up S []).write_ne nA [])
        clear HAt HAr
        go_wp2_with fail
        refine (in_crash0 HI.out hfit.out).mono ?_
        rintro e5 w5 ⟨rfl, hin⟩
        have HI5 := Lib.hid hin
        clear hin HI
        go_wp2_with fail
        refine (falive_calls w5).mono ?_
        rintro e6 w6 ⟨rfl, hb⟩
        have HI6 := Lib.hid (HI5.out.below objFile hb)
        clear hb HI5
        go_wp2_with fail
        refine (in_down HI6.out hfit2.out).mono ?_
        rintro e7 w7 ⟨rfl, hb, hin⟩
        have HI7 := Lib.hid hin
        have hdn : (S.crash []).down = false := rfl
        rw [hdn]
        clear hb hin HI6 hdn
        go_wp2_with fail
        refine (in_write0 HI7.out hfit2.out nA).mono ?_
        rintro e8 w8 ⟨rfl, hin⟩
        have HBe := Lib.hid (HB1.out.trans (hin.bel.mono HB1.out.size))
        generalize ((S.crash []).write nA []).2 = z at *
        have tz : (z != 100) = true := by simpa using hwn.out
        clear hin HI7 hwn HB1
        go_wp2_with fail
        go_ret
        exact ⟨rfl, HBe.out⟩
  · have alv : ∀ w1, Below w.heap.size w w1 → Hid (Calls Try.prog 11 #[] w1 fun e w' => e = .returned (.bool true) ∧ Below w.heap.size w w') := fun w1 hb => Lib.hid ((falive_calls w1).mono (by rintro e w' ⟨h1, h2⟩; exact ⟨h1, hb.trans (h2.mono hb.size)⟩))
    by_cases hf2 : xs.length ≤ 80 ∧ totG xs ≤ 8000
    · have hn3 : 1000 < n := Int.lt_of_not_ge fun h => hf ⟨hf2, h⟩
      have d3 : decide (1000 < n) = true := decide_eq_true hn3
      rw [decide_eq_true hf2] at Hfew
      have Alv := Lib.hid alv
      clear hf hf2 hR alv
      go_enter Try.func7, Try.ntmps7
      go_wp2_with fail
      refine Hfew.out.mono ?_
      rintro e w1 ⟨rfl, hb1⟩
      have Ha := Alv.out w1 hb1
      clear hb1 Alv
      go_wp2_with fail
      refine Ha.out.mono ?_
      rintro e w2 ⟨rfl, hb2⟩
      have HB2 := Lib.hid hb2
      clear hb2
      go_wp2_with fail
      go_ret
      exact ⟨rfl, HB2.out⟩
    · rw [decide_eq_false hf2] at Hfew
      have Alv := Lib.hid alv
      clear hf hf2 hR alv
      go_enter Try.func7, Try.ntmps7
      go_wp2_with fail
      refine Hfew.out.mono ?_
      rintro e w1 ⟨rfl, hb1⟩
      have Ha := Alv.out w1 hb1
      clear hb1 Alv
      go_wp2_with fail
      refine Ha.out.mono ?_
      rintro e w2 ⟨rfl, hb2⟩
      have HB2 := Lib.hid hb2
      clear hb2
      go_wp2_with fail
      go_ret
      exact ⟨rfl, HB2.out⟩
end Go.Proofs.Ytaeiffpdnlejbaa
