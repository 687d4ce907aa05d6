/-
  AbbrOnce (layer 8).
-/
import Derived.Test.YthifdojbbbnpaaaDoorPa28
namespace Go.Proofs.YthifdojbbbnpaaaDoor
open Go Go.RowKit
set_option maxRecDepth 100000

set_option maxHeartbeats 8000000 in
theorem aonce_calls (A0 : Option Addr) (c0 : Nat) (os : List OpA) (x : List UInt8) (n : Int) (w : World) (hO : RdA w A0 os) (hl : os.length ≤ 9223372036854775807) (hx : x.length ≤ 9223372036854775807) (hsp : Spans w) :
    Calls Tryd.prog 7 #[.slice A0 os.length c0, .agg #[.string (bs x), .int .i64 n]] w fun e w' => e = .returned (.bool true) ∧ Below w.heap.size w w' := by
  have hb0 : Below w.heap.size w (w.alloc (.cells #[.string (bs x), .int .i64 n] 41)) := (Below.refl _ w).alloc (Nat.le_refl _) _
  have hx0 : BxA (w.alloc (.cells #[.string (bs x), .int .i64 n] 41)) w.heap.size 41 [.string (bs x), .int .i64 n] := BxA.new w 41 _
  obtain ⟨W0, hW0⟩ : ∃ W0, w.alloc (.cells #[.string (bs x), .int .i64 n] 41) = W0 := ⟨_, rfl⟩
  rw [hW0] at hb0 hx0
  have hs0 : w.heap.size < W0.heap.size := by rw [← hW0, World.size_alloc]; omega
  have Hfew := Lib.hid (few8_calls A0 c0 os W0 (hO.below hb0) hl)
  have HO := Lib.hid hO
  have HS := Lib.hid hsp
  have HB0 := Lib.hid hb0
  have HBx0 := Lib.hid hx0
  have hsz := bs_size x
  have k0 := hx0.c 0 rfl
  clear hO hsp hb0 hx0
  by_cases hq : os.length ≤ 100 ∧ totA os ≤ 6000
  · rw [decide_eq_true hq] at Hfew
    have HQ := Lib.hid hq
    clear hq
    by_cases hx15 : 1500 < x.length
    · have d1 : decide ((1500 : Int) < (x.length : Int)) = true := decide_eq_true (by omega)
      clear hx15
      go_enter Tryd.func7, Tryd.ntmps7
      go_wp2_with fail
      refine Hfew.out.mono ?_
      rintro e w1 ⟨rfl, hb1⟩
      have HBx2 := Lib.hid (HBx0.out.below hb1)
      have k0' := HBx2.out.c 0 rfl
      have HB1 := Lib.hid (HB0.out.trans (hb1.mono HB0.out.size))
      have hs1 : w.heap.size < w1.heap.size := Nat.lt_of_lt_of_le hs0 hb1.size
      clear hb1 Hfew k0 HBx0 hW0
      go_wp2_with fail
      refine (aalive_calls w1 (spans_below HS.out HB1.out)).mono ?_
      rintro e w9 ⟨rfl, hb9⟩
      have HB9 := Lib.hid (HB1.out.trans (hb9.mono (HB1.out).size))
      clear hb9
      go_wp2_with fail
      go_ret
      exact ⟨rfl, HB9.out⟩
    · have d1 : ¬ ((1500 : Int) < (x.length : Int)) := by omega
      go_enter Tryd.func7, Tryd.ntmps7
      go_wp2_with fail
      refine Hfew.out.mono ?_
      rintro e w1 ⟨rfl, hb1⟩
      have HBx2 := Lib.hid (HBx0.out.below hb1)
      have k0' := HBx2.out.c 0 rfl
      have HB1 := Lib.hid (HB0.out.trans (hb1.mono HB0.out.size))
      have hs1 : w.heap.size < w1.heap.size := Nat.lt_of_lt_of_le hs0 hb1.size
      clear hb1 Hfew k0 HBx0 hW0
      have HX1 := Lib.hid (AbX.startX (w0 := w) (w := w1) (X := (fun k => k = w.heap.size)) HB1.out (fun k (hk : k = _) => ⟨by omega, by omega⟩))
      have HBx1 := Lib.hid (HBx2.out.alloc (.cells #[.map none] 27))
      clear HBx2
      go_wp2_with fail
      clear k0'
      go_loopw [6, 28] (fun v4 v20 wr => ∃ (k : Nat) (l : List PR) (A : Option Addr) (c : Nat), k ≤ os.length ∧ v20 = .int .i64 (k : Int) ∧ v4 = .slice A l.length c ∧ Hid (AbX w wr (fun k => k = w.heap.size) w1.heap.size l A) ∧ Hid (BxA wr w.heap.size 41 [.string (bs x), .int .i64 n])) (fun _ v20 _ => os.length - (intOf v20).toNat)
      case atStart => exact ⟨0, [], none, 0, Nat.zero_le _, rfl, rfl, HX1, HBx1⟩
      case round =>
        obtain ⟨k, l, A, c, hk, rfl, rfl, hX, hBx⟩ := hrel
        clear HX1 HBx1
        by_cases hlt : k < os.length
        · obtain ⟨g, og, rfl, hg, e0, e1, e2, _, _⟩ := (HO.out.below hX.out.bel).at_ hlt
          have Hsz : Hid ((os.getD k OpA.none_).n.size ≤ 100000 ∧ (os.getD k OpA.none_).t.size ≤ 100000) := Lib.hid (by
            have h1 := totA_at hlt
            have h2 := HQ.out.2
            unfold OpA.len at h1
            omega)
          have hx5 := hX.out.below ((Below.refl _ wr).alloc (Nat.le_refl _) (.cells #[.int .i64 (os.getD k OpA.none_).k, .string (os.getD k OpA.none_).n, .string (os.getD k OpA.none_).t] 30))
          have HBx4 := Lib.hid (hBx.out.alloc (.cells #[.int .i64 (os.getD k OpA.none_).k, .string (os.getD k OpA.none_).n, .string (os.getD k OpA.none_).t] 30))
          have hn5 := BxA.new wr 30 [.int .i64 (os.getD k OpA.none_).k, .string (os.getD k OpA.none_).n, .string (os.getD k OpA.none_).t]
          have m0 := hn5.c 0 rfl
          have m1 := hn5.c 1 rfl
          have m2 := hn5.c 2 rfl
          have Hdo := Lib.hid (adoes_calls w _ (fun k => k = w.heap.size) _ l A c hx5 HS.out (os.getD k OpA.none_) Hsz.out.1 Hsz.out.2)
          clear hX hBx hx5 hn5
          generalize os.getD k OpA.none_ = o at *
          have hkl : (k : Int) < (os.length : Int) := by omega
          go_wp2_with fail
          refine Hdo.out.mono ?_
          rintro e w5 ⟨A', c', rfl, hx, ho5⟩
          have HBx5 := Lib.hid (HBx4.out.keep ho5 (fun hn => hn rfl))
          clear ho5 HBx4
          have HX5 := Lib.hid hx
          clear hx Hdo m0 m1 m2 e0 e1 e2
          generalize doA l o = l' at *
          go_wp2_with fail
          go_roundw
          case rel => exact ⟨k + 1, l', A', c', by omega, by go_num, rfl, HX5, HBx5⟩
          case measure => simp [intOf]; omega
        · obtain rfl : k = os.length := by omega
          clear hlt hk
          have b0 := hBx.out.c 0 rfl
          have b1 := hBx.out.c 1 rfl
          go_wp2_with fail
          refine (hX.out.rd (fun O hO => tgrow_calls wr O _ l hO (spans_below HS.out hX.out.bel) x n (by omega))).mono ?_
          rintro e w5 ⟨rfl, hx5, hb5⟩
          have hrt : Rt (growR l (mS x, mA x n)).1.1 (growR l (mS x, mA x n)).1.2 := growR_rt (make_rt x n)
          generalize growR l (mS x, mA x n) = r1 at *
          obtain ⟨⟨cs, ca⟩, is⟩ := r1
          have HRt := Lib.hid hrt
          have hx6 := hx5.add (Y := fun k => k = w5.heap.size) ((Below.refl _ w5).alloc (Nat.le_refl _) (.cells #[.string (bs cs), .int .i64 (ca : Int)] 44)) (fun k (hk : k = _) => ⟨by omega, by rw [World.size_alloc]; omega⟩)
          have hq6 := BxA.new w5 44 [.string (bs cs), .int .i64 (ca : Int)]
          obtain ⟨w6, hw6⟩ : ∃ w6, w5.alloc (.cells #[.string (bs cs), .int .i64 (ca : Int)] 44) = w6 := ⟨_, rfl⟩
          rw [hw6] at hx6
          have hq6' : BxA w6 w5.heap.size 44 [.string (bs cs), .int .i64 (ca : Int)] := by rw [← hw6]; exact hq6
          have HX6 := Lib.hid hx6
          have HQ6 := Lib.hid hq6'
          have m0 := hq6'.c 0 rfl
          have m1 := hq6'.c 1 rfl
          clear hx5 hb5 hx6 hq6 hq6' hX hBx b0 b1 hrt
          go_wp2_with fail
          clear hw6
          have hc600 : cs.length ≤ 600 := HRt.out.2.1
          have hca : ca ≤ cs.length := HRt.out.2.2.le
          refine (HX6.out.rd (E := fun e _ => e = .returned (.tuple #[.agg #[.string (bs (growR l (cs, ca)).1.1), .int .i64 ((growR l (cs, ca)).1.2 : Int)], .bool (growR l (cs, ca)).2])) (fun O hO => (tgrow_calls w6 O _ l hO (spans_below HS.out HX6.out.bel) cs (ca : Int) (by omega)).mono (fun e w' hh => by
            rw [HRt.out.make.1, HRt.out.make.2] at hh
            exact hh))).mono ?_
          rintro e w7 ⟨rfl, hx7, hb7⟩
          have hor : ((growR l (cs, ca)).2 = true ∧ (getP l (bs (headL (cs, ca)))).isSome = true) ∨ ((growR l (cs, ca)).2 = false ∧ (growR l (cs, ca)).1 = (cs, ca)) := by
            cases hg : (growR l (cs, ca)).2 with
            | true =>
              obtain ⟨t, ht, _⟩ := growR_is hg
              exact .inl ⟨rfl, by rw [ht]; rfl⟩
            | false => exact .inr ⟨rfl, growR_no hg⟩
          have HOr := Lib.hid hor
          clear hor
          generalize growR l (cs, ca) = r2 at *
          obtain ⟨⟨ds, da⟩, again⟩ := r2
          have hx8 := hx7.below ((Below.refl _ w7).alloc (Nat.le_refl _) (.cells #[.string (bs ds), .int .i64 (da : Int)] 44))
          have hq8 := BxA.new w7 44 [.string (bs ds), .int .i64 (da : Int)]
          have hp8 := (HQ6.out.below hb7).alloc (.cells #[.string (bs ds), .int .i64 (da : Int)] 44)
          obtain ⟨w8, hw8⟩ : ∃ w8, w7.alloc (.cells #[.string (bs ds), .int .i64 (da : Int)] 44) = w8 := ⟨_, rfl⟩
          rw [hw8] at hx8 hp8
          have hq8' : BxA w8 w7.heap.size 44 [.string (bs ds), .int .i64 (da : Int)] := by rw [← hw8]; exact hq8
          have HX8 := Lib.hid hx8
          have HQ8 := Lib.hid hq8'
          have HP8 := Lib.hid hp8
          have m0 := hp8.c 0 rfl
          have m1 := hp8.c 1 rfl
          have htk := bs_take cs ca
          have hszc := bs_size cs
          clear hx7 hb7 hx8 hq8 hq8' hp8 HX6 HQ6
          go_wp2_with fail
          clear hw8
          refine (trimLeft_calls (cs.take ca) w8).mono ?_
          rintro e w9 ⟨rfl, hb9⟩
          rw [show ((cs.take ca).dropWhile fun c => c == 32) = headL (cs, ca) from rfl]
          have HX9 := Lib.hid (HX8.out.below hb9)
          have HQ9 := Lib.hid (HQ8.out.below hb9)
          have HP9 := Lib.hid (HP8.out.below hb9)
          clear hb9 HX8 HQ8 HP8 htk m0 m1
          go_wp2_with fail
          refine (rget_calls w9 _ A c l HX9.out.row (by have := HX9.out.len; omega) (bs (headL (cs, ca)))).mono ?_
          rintro e w10 ⟨rfl, hb10⟩
          have HX10 := Lib.hid (HX9.out.below hb10)
          have HQ10 := Lib.hid (HQ9.out.below hb10)
          have HP10 := Lib.hid (HP9.out.below hb10)
          clear hb10 HX9 HQ9 HP9
          generalize getP l (bs (headL (cs, ca))) = gp at *
          go_wp2_with fail
          refine (aalive_calls w10 (spans_below HS.out HX10.out.bel)).mono ?_
          rintro e w11 ⟨rfl, hb11⟩
          have HB11 := Lib.hid (HX10.out.bel.trans (hb11.mono HX10.out.bel.size))
          have hq11 := HQ10.out.below hb11
          have hp11 := HP10.out.below hb11
          have m0 := hq11.c 0 rfl
          have m1 := hq11.c 1 rfl
          have n0 := hp11.c 0 rfl
          have n1 := hp11.c 1 rfl
          have q1 := aeqT (bs cs) (ca : Int)
          have hor := HOr.out
          clear hb11 hq11 hp11 HX10 HQ10 HP10 HOr
          rcases hor with ⟨rfl, hg2⟩ | ⟨rfl, hg2⟩
          case' inr =>
            injection hg2 with e1 e2
            subst e1
            subst e2
          all_goals
            cases is
            all_goals
              go_wp2_with fail
              go_ret
              exact ⟨rfl, HB11.out⟩
  · rw [decide_eq_false hq] at Hfew
    clear hq
    go_enter Tryd.func7, Tryd.ntmps7
    go_wp2_with fail
    refine Hfew.out.mono ?_
    rintro e w1 ⟨rfl, hb1⟩
    have HBx2 := Lib.hid (HBx0.out.below hb1)
    have k0' := HBx2.out.c 0 rfl
    have HB1 := Lib.hid (HB0.out.trans (hb1.mono HB0.out.size))
    have hs1 : w.heap.size < w1.heap.size := Nat.lt_of_lt_of_le hs0 hb1.size
    clear hb1 Hfew k0 HBx0 hW0
    go_wp2_with fail
    refine (aalive_calls w1 (spans_below HS.out HB1.out)).mono ?_
    rintro e w9 ⟨rfl, hb9⟩
    have HB9 := Lib.hid (HB1.out.trans (hb9.mono (HB1.out).size))
    clear hb9
    go_wp2_with fail
    go_ret
    exact ⟨rfl, HB9.out⟩
end Go.Proofs.YthifdojbbbnpaaaDoor
