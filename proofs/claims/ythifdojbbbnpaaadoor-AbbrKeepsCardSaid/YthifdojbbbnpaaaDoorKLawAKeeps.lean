/-
  AbbrKeeps (layer 8).
-/
import Derived.Test.YthifdojbbbnpaaaDoorPa25
import Derived.Test.YthifdojbbbnpaaaDoorPa27
namespace Go.Proofs.YthifdojbbbnpaaaDoor
open Go Go.RowKit
set_option maxRecDepth 100000

set_option maxHeartbeats 8000000 in
theorem akeeps_calls (A0 : Option Addr) (c0 : Nat) (os : List OpA) (x : List UInt8) (n : Int) (w : World) (hO : RdA w A0 os) (hl : os.length ≤ 9223372036854775807) (hx : x.length ≤ 9223372036854775807) (hsp : Spans w) :
    Calls Tryd.prog 4 #[.slice A0 os.length c0, .agg #[.string (bs x), .int .i64 n]] w fun e w' => e = .returned (.bool true) ∧ Below w.heap.size w w' := by
  have hb0 : Below w.heap.size w (w.alloc (.cells #[.string (bs x), .int .i64 n] 41)) := (Below.refl _ w).alloc (Nat.le_refl _) _
  have hx0 : BxA (w.alloc (.cells #[.string (bs x), .int .i64 n] 41)) w.heap.size 41 [.string (bs x), .int .i64 n] := BxA.new w 41 _
  obtain ⟨W0, hW0⟩ : ∃ W0, w.alloc (.cells #[.string (bs x), .int .i64 n] 41) = W0 := ⟨_, rfl⟩
  rw [hW0] at hb0 hx0
  have hs0 : w.heap.size < W0.heap.size := by rw [← hW0, World.size_alloc]; omega
  have Hfew := Lib.hid (few8_calls A0 c0 os W0 (hO.below hb0) hl)
  have HO := Lib.hid hO
  have HS := Lib.hid hsp
  have HB0 := Lib.hid hb0
  have HBx0 := Lib.hid hx0
  have hsz := bs_size x
  have k0 := hx0.c 0 rfl
  clear hO hsp hb0 hx0
  by_cases hq : os.length ≤ 100 ∧ totA os ≤ 6000
  · rw [decide_eq_true hq] at Hfew
    have HQ := Lib.hid hq
    clear hq
    by_cases hx15 : 1500 < x.length
    · have d1 : decide ((1500 : Int) < (x.length : Int)) = true := decide_eq_true (by omega)
      clear hx15
      go_enter Tryd.func4, Tryd.ntmps4
      go_wp2_with fail
      refine Hfew.out.mono ?_
      rintro e w1 ⟨rfl, hb1⟩
      have HBx2 := Lib.hid (HBx0.out.below hb1)
      have k0' := HBx2.out.c 0 rfl
      have HB1 := Lib.hid (HB0.out.trans (hb1.mono HB0.out.size))
      have hs1 : w.heap.size < w1.heap.size := Nat.lt_of_lt_of_le hs0 hb1.size
      clear hb1 Hfew k0 HBx0 hW0
      go_wp2_with fail
      refine (aalive_calls w1 (spans_below HS.out HB1.out)).mono ?_
      rintro e w9 ⟨rfl, hb9⟩
      have HB9 := Lib.hid (HB1.out.trans (hb9.mono (HB1.out).size))
      clear hb9
      go_wp2_with fail
      go_ret
      exact ⟨rfl, HB9.out⟩
    · have d1 : ¬ ((1500 : Int) < (x.length : Int)) := by omega
      go_enter Tryd.func4, Tryd.ntmps4
      go_wp2_with fail
      refine Hfew.out.mono ?_
      rintro e w1 ⟨rfl, hb1⟩
      have HBx2 := Lib.hid (HBx0.out.below hb1)
      have k0' := HBx2.out.c 0 rfl
      have HB1 := Lib.hid (HB0.out.trans (hb1.mono HB0.out.size))
      have hs1 : w.heap.size < w1.heap.size := Nat.lt_of_lt_of_le hs0 hb1.size
      clear hb1 Hfew k0 HBx0 hW0
      have HX1 := Lib.hid (TbX.startX (w0 := w) (w := w1) (X := (fun k => k = w.heap.size)) HB1.out (fun k (hk : k = _) => ⟨by omega, by omega⟩))
      have HBx1 := Lib.hid (HBx2.out.alloc (.cells #[.map none] 27))
      clear HBx2
      go_wp2_with fail
      clear k0'
      go_loopw [24] (fun v24 wr => ∃ (k : Nat) (l : List PR), k ≤ os.length ∧ v24 = .int .i64 (k : Int) ∧ Hid (TbX w wr (fun k => k = w.heap.size) w1.heap.size l) ∧ Hid (BxA wr w.heap.size 41 [.string (bs x), .int .i64 n])) (fun v24 _ => os.length - (intOf v24).toNat)
      case atStart => exact ⟨0, [], Nat.zero_le _, rfl, HX1, HBx1⟩
      case round =>
        obtain ⟨k, l, hk, rfl, hX, hBx⟩ := hrel
        clear HX1 HBx1
        by_cases hlt : k < os.length
        · obtain ⟨g, og, rfl, hg, e0, e1, e2, _, _⟩ := (HO.out.below hX.out.bel).at_ hlt
          have Hsz : Hid ((os.getD k OpA.none_).n.size ≤ 100000 ∧ (os.getD k OpA.none_).t.size ≤ 100000) := Lib.hid (by
            have h1 := totA_at hlt
            have h2 := HQ.out.2
            unfold OpA.len at h1
            omega)
          have hx5 := hX.out.below ((Below.refl _ wr).alloc (Nat.le_refl _) (.cells #[.int .i64 (os.getD k OpA.none_).k, .string (os.getD k OpA.none_).n, .string (os.getD k OpA.none_).t] 30))
          have HBx4 := Lib.hid (hBx.out.alloc (.cells #[.int .i64 (os.getD k OpA.none_).k, .string (os.getD k OpA.none_).n, .string (os.getD k OpA.none_).t] 30))
          have hn5 := BxA.new wr 30 [.int .i64 (os.getD k OpA.none_).k, .string (os.getD k OpA.none_).n, .string (os.getD k OpA.none_).t]
          have m0 := hn5.c 0 rfl
          have m1 := hn5.c 1 rfl
          have m2 := hn5.c 2 rfl
          have hkl : (k : Int) < (os.length : Int) := by omega
          generalize os.getD k OpA.none_ = o at *
          have HX4 := Lib.hid hx5
          clear hX hBx hx5 hn5
          by_cases h0 : o.k = 0
          · have t0 : (o.k == 0) = true := beq_iff_eq.2 h0
            have Hdo := Lib.hid (HX4.out.turn (P := Tryd.prog) (f := 13) (args := #[.pointer (some ⟨w1.heap.size, 0, none⟩), .string o.n, .string o.t]) (E := fun e => e = .returned (.int .i64 (setR l o.n o.t).2)) (l' := (setR l o.n o.t).1) (fun O hO => tset_calls _ O _ l hO o.n o.t (by have := Hsz.out.1; omega) (by have := Hsz.out.2; omega)))
            clear h0 HX4
            go_wp2_with fail
            refine Hdo.out.mono ?_
            rintro e w5 ⟨rfl, hx, ho5⟩
            have HX5 := Lib.hid hx
            have HBx5 := Lib.hid (HBx4.out.keep ho5 (fun hn => hn rfl))
            clear ho5 HBx4 hx Hdo m0 m1 m2 e0 e1 e2
            go_wp2_with fail
            go_roundw
            case rel => exact ⟨k + 1, _, by omega, by go_num, HX5, HBx5⟩
            case measure => simp [intOf]; omega
          · have t0 : (o.k == 0) = false := beq_eq_false_iff_ne.2 h0
            clear h0
            go_wp2_with fail
            go_roundw
            case rel => exact ⟨k + 1, l, by omega, by go_num, HX4, HBx4⟩
            case measure => simp [intOf]; omega
        · obtain rfl : k = os.length := by omega
          clear hlt hk
          have b0 := hBx.out.c 0 rfl
          have b1 := hBx.out.c 1 rfl
          go_wp2_with fail
          refine (make_calls x n (by omega) wr (spans_below HS.out hX.out.bel)).mono ?_
          rintro e w4 ⟨rfl, hb4⟩
          have hrt0 := make_rt x n
          have Hm1 : Hid (mS (mS x) = mS x ∧ mA (mS x) (mA x n : Int) = mA x n) := Lib.hid hrt0.make
          generalize mA x n = a at *
          generalize mS x = m at *
          have hm6 : m.length ≤ 600 := hrt0.2.1
          have ham : a ≤ m.length := hrt0.2.2.le
          have HRt0 := Lib.hid hrt0
          have hx4 := (hX.out.below hb4).add (Y := fun k => k = w4.heap.size) ((Below.refl _ w4).alloc (Nat.le_refl _) (.cells #[.string (bs m), .int .i64 (a : Int)] 44)) (fun k (hk : k = _) => ⟨by omega, by rw [World.size_alloc]; omega⟩)
          have hq5 := BxA.new w4 44 [.string (bs m), .int .i64 (a : Int)]
          obtain ⟨w5, hw5⟩ : ∃ w5, w4.alloc (.cells #[.string (bs m), .int .i64 (a : Int)] 44) = w5 := ⟨_, rfl⟩
          rw [hw5] at hx4 hq5
          have HX5 := Lib.hid hx4
          have HQ5 := Lib.hid hq5
          have m0 := hq5.c 0 rfl
          have m1 := hq5.c 1 rfl
          clear hx4 hq5 hX hBx b0 b1 hrt0 hb4
          go_wp2_with fail
          clear hw5
          refine (HX5.out.rd (E := fun e _ => e = .returned (.tuple #[.agg #[.string (bs (growR l (m, a)).1.1), .int .i64 ((growR l (m, a)).1.2 : Int)], .bool (growR l (m, a)).2])) (fun O hO => (tgrow_calls w5 O _ l hO (spans_below HS.out HX5.out.bel) m (a : Int) (by omega)).mono (fun e w' hh => by
            rw [Hm1.out.1, Hm1.out.2] at hh
            exact hh))).mono ?_
          rintro e w6 ⟨rfl, hx6, hb6⟩
          have hor : ((growR l (m, a)).2 = false ∧ (growR l (m, a)).1 = (m, a)) ∨ ((growR l (m, a)).2 = true ∧ ∃ p, (growR l (m, a)).1.1 = p ++ m.drop a ∧ p.length ≤ (growR l (m, a)).1.2) := by
            cases hg : (growR l (m, a)).2 with
            | true => exact .inr ⟨rfl, growR_keeps HRt0.out hg⟩
            | false => exact .inl ⟨rfl, growR_no hg⟩
          have hlen6 : (growR l (m, a)).1.1.length ≤ 600 := (growR_rt (l := l) HRt0.out).2.1
          have HOr := Lib.hid hor
          clear hor
          generalize growR l (m, a) = r2 at *
          obtain ⟨⟨cs, ca⟩, is⟩ := r2
          dsimp only at hlen6
          have hx8 := hx6.below ((Below.refl _ w6).alloc (Nat.le_refl _) (.cells #[.string (bs cs), .int .i64 (ca : Int)] 44))
          have hq8 := BxA.new w6 44 [.string (bs cs), .int .i64 (ca : Int)]
          have hp8 := (HQ5.out.below hb6).alloc (.cells #[.string (bs cs), .int .i64 (ca : Int)] 44)
          obtain ⟨w8, hw8⟩ : ∃ w8, w6.alloc (.cells #[.string (bs cs), .int .i64 (ca : Int)] 44) = w8 := ⟨_, rfl⟩
          rw [hw8] at hx8 hq8 hp8
          have HX8 := Lib.hid hx8
          have HQ8 := Lib.hid hq8
          have HP8 := Lib.hid hp8
          clear hx6 hb6 hx8 HX5 HQ5 m0 m1
          have hor := HOr.out
          clear HOr
          rcases hor with ⟨hi, he⟩ | ⟨hi, p, hp, hpl⟩
          · dsimp only at hi
            subst hi
            injection he with e1 e2
            subst e1
            subst e2
            clear hq8 hp8
            have q1 := aeqT (bs cs) (ca : Int)
            go_wp2_with fail
            refine (aalive_calls w8 (spans_below HS.out HX8.out.bel)).mono ?_
            rintro e w9 ⟨rfl, hb9⟩
            have HB9 := Lib.hid (HX8.out.bel.trans (hb9.mono HX8.out.bel.size))
            have hq9 := HQ8.out.below hb9
            have hp9 := HP8.out.below hb9
            have m0 := hq9.c 0 rfl
            have m1 := hq9.c 1 rfl
            have n0 := hp9.c 0 rfl
            have n1 := hp9.c 1 rfl
            clear hb9 hq9 hp9 HX8 HQ8 HP8 hw8
            go_wp2_with fail
            go_ret
            exact ⟨rfl, HB9.out⟩
          · dsimp only at hi hp hpl
            subst hi
            have n0 := hp8.c 0 rfl
            have n1 := hp8.c 1 rfl
            have hszm := bs_size m
            have hdm := bs_drop m a
            have hdl : (m.drop a).length = m.length - a := List.length_drop
            have hszc := bs_size cs
            have hcl : cs.length = p.length + (m.drop a).length := by rw [hp, List.length_append]
            have hex : (bs cs).extract p.length cs.length = bs (m.drop a) := by
              rw [bs_drop, hp, List.drop_left]
            have hsr := bs_size (m.drop a)
            clear hp hq8 hp8 hdl
            generalize m.drop a = rs at *
            have hsub : (cs.length : Int) - (rs.length : Int) = (p.length : Int) := by omega
            have hge : (rs.length : Int) ≤ (cs.length : Int) := by omega
            have hpc : (p.length : Int) ≤ (ca : Int) := by omega
            have hpc2 : p.length ≤ cs.length := by omega
            have HEx := Lib.hid hex
            have HSub := Lib.hid hsub
            clear hcl hex hsub
            go_wp2_with fail
            refine (aalive_calls w8 (spans_below HS.out HX8.out.bel)).mono ?_
            rintro e w9 ⟨rfl, hb9⟩
            have HB9 := Lib.hid (HX8.out.bel.trans (hb9.mono HX8.out.bel.size))
            have hq9 := HQ8.out.below hb9
            have m0 := hq9.c 0 rfl
            have m1 := hq9.c 1 rfl
            have hex := HEx.out
            have hsub := HSub.out
            have q1 : ((bs rs).toList == (bs rs).toList) = true := beq_self_eq_true _
            clear hb9 hq9 HX8 HQ8 HP8 hw8 n0 n1 hdm hszm
            go_wp2_with fail
            go_ret
            exact ⟨rfl, HB9.out⟩
  · rw [decide_eq_false hq] at Hfew
    clear hq
    go_enter Tryd.func4, Tryd.ntmps4
    go_wp2_with fail
    refine Hfew.out.mono ?_
    rintro e w1 ⟨rfl, hb1⟩
    have HBx2 := Lib.hid (HBx0.out.below hb1)
    have k0' := HBx2.out.c 0 rfl
    have HB1 := Lib.hid (HB0.out.trans (hb1.mono HB0.out.size))
    have hs1 : w.heap.size < w1.heap.size := Nat.lt_of_lt_of_le hs0 hb1.size
    clear hb1 Hfew k0 HBx0 hW0
    go_wp2_with fail
    refine (aalive_calls w1 (spans_below HS.out HB1.out)).mono ?_
    rintro e w9 ⟨rfl, hb9⟩
    have HB9 := Lib.hid (HB1.out.trans (hb9.mono (HB1.out).size))
    clear hb9
    go_wp2_with fail
    go_ret
    exact ⟨rfl, HB9.out⟩
end Go.Proofs.YthifdojbbbnpaaaDoor
