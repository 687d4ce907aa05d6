/-
  AbbrGrows (layer 8).
-/
import Derived.Test.YtlmbafnoopfilaaGreatDoorPg24
import Derived.Test.YtlmbafnoopfilaaGreatDoorPg31
import Derived.Test.YtlmbafnoopfilaaGreatDoorPg33
namespace Go.Proofs.YtlmbafnoopfilaaGreatDoor
open Go Go.RowKit
set_option maxRecDepth 100000

theorem reqT (x : ByteArray) (n : Int) (W : World) : (binOp .eql 24 (.agg #[.string x, .int .i64 n]) (.agg #[.string x, .int .i64 n])).run Tryz.prog W = .ok (.bool true) W := by
  have h1 := Tryz.underlying24
  have h2 := Tryz.underlying9
  have h3 := Tryz.underlying3
  rw [run_eql_struct]
  go_simp
set_option maxHeartbeats 8000000 in
theorem agrows_calls (A0 : Option Addr) (c0 : Nat) (os : List OpA) (x : List UInt8) (n : Int) (w : World) (hO : RdA w A0 os) (hl : os.length ≤ 9223372036854775807) (hx : x.length ≤ 9223372036854775807) (hsp : Spans w) :
    Calls Tryz.prog 3 #[.slice A0 os.length c0, .agg #[.string (bs x), .int .i64 n]] w fun e w' => e = .returned (.bool true) ∧ Below w.heap.size w w' := by
  have hb0 : Below w.heap.size w (w.alloc (.cells #[.string (bs x), .int .i64 n] 24)) := (Below.refl _ w).alloc (Nat.le_refl _) _
  have hx0 : BxA (w.alloc (.cells #[.string (bs x), .int .i64 n] 24)) w.heap.size 24 [.string (bs x), .int .i64 n] := BxA.new w 24 _
  obtain ⟨W0, hW0⟩ : ∃ W0, w.alloc (.cells #[.string (bs x), .int .i64 n] 24) = W0 := ⟨_, rfl⟩
  rw [hW0] at hb0 hx0
  have hs0 : w.heap.size < W0.heap.size := by rw [← hW0, World.size_alloc]; omega
  have Hfew := Lib.hid (few8_calls A0 c0 os W0 (hO.below hb0) hl)
  have HO := Lib.hid hO
  have HS := Lib.hid hsp
  have HB0 := Lib.hid hb0
  have HBx0 := Lib.hid hx0
  have hsz := bs_size x
  have k0 := hx0.c 0 rfl
  clear hO hsp hb0 hx0
  by_cases hq : os.length ≤ 100 ∧ totA os ≤ 6000
  · rw [decide_eq_true hq] at Hfew
    have HQ := Lib.hid hq
    clear hq
    by_cases hx15 : 1500 < x.length
    · have d1 : decide ((1500 : Int) < (x.length : Int)) = true := decide_eq_true (by omega)
      clear hx15
      go_enter Tryz.func3, Tryz.ntmps3
      go_wp2_with fail
      refine Hfew.out.mono ?_
      rintro e w1 ⟨rfl, hb1⟩
      have HBx2 := Lib.hid (HBx0.out.below hb1)
      have k0' := HBx2.out.c 0 rfl
      have HB1 := Lib.hid (HB0.out.trans (hb1.mono HB0.out.size))
      have hs1 : w.heap.size < w1.heap.size := Nat.lt_of_lt_of_le hs0 hb1.size
      clear hb1 Hfew k0 HBx0 hW0
      go_wp2_with fail
      refine (aalive_calls w1 (spans_below HS.out HB1.out)).mono ?_
      rintro e w9 ⟨rfl, hb9⟩
      have HB9 := Lib.hid (HB1.out.trans (hb9.mono (HB1.out).size))
      clear hb9
      go_wp2_with fail
      go_ret
      exact ⟨rfl, HB9.out⟩
    · have d1 : ¬ ((1500 : Int) < (x.length : Int)) := by omega
      go_enter Tryz.func3, Tryz.ntmps3
      go_wp2_with fail
      refine Hfew.out.mono ?_
      rintro e w1 ⟨rfl, hb1⟩
      have HBx2 := Lib.hid (HBx0.out.below hb1)
      have k0' := HBx2.out.c 0 rfl
      have HB1 := Lib.hid (HB0.out.trans (hb1.mono HB0.out.size))
      have hs1 : w.heap.size < w1.heap.size := Nat.lt_of_lt_of_le hs0 hb1.size
      clear hb1 Hfew k0 HBx0 hW0
      have HX1 := Lib.hid (AbX.startX (w0 := w) (w := w1) (X := (fun k => k = w.heap.size)) HB1.out (fun k (hk : k = _) => ⟨by omega, by omega⟩))
      have HBx1 := Lib.hid (HBx2.out.alloc (.cells #[.map none] 29))
      clear HBx2
      go_wp2_with fail
      clear k0'
      go_loopw [6, 25] (fun v4 v20 wr => ∃ (k : Nat) (l : List PR) (A : Option Addr) (c : Nat), k ≤ os.length ∧ v20 = .int .i64 (k : Int) ∧ v4 = .slice A l.length c ∧ Hid (AbX w wr (fun k => k = w.heap.size) w1.heap.size l A) ∧ Hid (BxA wr w.heap.size 24 [.string (bs x), .int .i64 n])) (fun _ v20 _ => os.length - (intOf v20).toNat)
      case atStart => exact ⟨0, [], none, 0, Nat.zero_le _, rfl, rfl, HX1, HBx1⟩
      case round =>
        obtain ⟨k, l, A, c, hk, rfl, rfl, hX, hBx⟩ := hrel
        clear HX1 HBx1
        by_cases hlt : k < os.length
        · obtain ⟨g, og, rfl, hg, e0, e1, e2, _, _⟩ := (HO.out.below hX.out.bel).at_ hlt
          have Hsz : Hid ((os.getD k OpA.none_).n.size ≤ 100000 ∧ (os.getD k OpA.none_).t.size ≤ 100000) := Lib.hid (by
            have h1 := totA_at hlt
            have h2 := HQ.out.2
            unfold OpA.len at h1
            omega)
          have hx5 := hX.out.below ((Below.refl _ wr).alloc (Nat.le_refl _) (.cells #[.int .i64 (os.getD k OpA.none_).k, .string (os.getD k OpA.none_).n, .string (os.getD k OpA.none_).t] 32))
          have HBx4 := Lib.hid (hBx.out.alloc (.cells #[.int .i64 (os.getD k OpA.none_).k, .string (os.getD k OpA.none_).n, .string (os.getD k OpA.none_).t] 32))
          have hn5 := BxA.new wr 32 [.int .i64 (os.getD k OpA.none_).k, .string (os.getD k OpA.none_).n, .string (os.getD k OpA.none_).t]
          have m0 := hn5.c 0 rfl
          have m1 := hn5.c 1 rfl
          have m2 := hn5.c 2 rfl
          have Hdo := Lib.hid (adoes_calls w _ (fun k => k = w.heap.size) _ l A c hx5 HS.out (os.getD k OpA.none_) Hsz.out.1 Hsz.out.2)
          clear hX hBx hx5 hn5
          generalize os.getD k OpA.none_ = o at *
          have hkl : (k : Int) < (os.length : Int) := by omega
          go_wp2_with fail
          refine Hdo.out.mono ?_
          rintro e w5 ⟨A', c', rfl, hx, ho5⟩
          have HBx5 := Lib.hid (HBx4.out.keep ho5 (fun hn => hn rfl))
          clear ho5 HBx4
          have HX5 := Lib.hid hx
          clear hx Hdo m0 m1 m2 e0 e1 e2
          generalize doA l o = l' at *
          go_wp2_with fail
          go_roundw
          case rel => exact ⟨k + 1, l', A', c', by omega, by go_num, rfl, HX5, HBx5⟩
          case measure => simp [intOf]; omega
        · obtain rfl : k = os.length := by omega
          clear hlt hk
          have b0 := hBx.out.c 0 rfl
          have b1 := hBx.out.c 1 rfl
          have hsm : ∀ p ∈ l, p.2.size ≤ 137438953472 := fun p hp => by
            obtain ⟨O, D, h1, _⟩ := hX.out
            have := (h1.small p hp).2
            omega
          have HSm := Lib.hid hsm
          have HOn := Lib.hid hX.out.once
          have Hlen := Lib.hid hX.out.len
          clear hsm
          go_wp2_with fail
          refine (hX.out.rd (fun O hO => tgrow_calls wr O _ l hO (spans_below HS.out hX.out.bel) x n (by omega))).mono ?_
          rintro e w5 ⟨rfl, hx5, hb5⟩
          have hrt : Rt (growR l (mS x, mA x n)).1.1 (growR l (mS x, mA x n)).1.2 := growR_rt (make_rt x n)
          have HG := Lib.hid (fun W (hW : RowT prC W (fun _ => True) A l) => rgrow_calls W _ A c l hW (by have := Hlen.out; omega) HOn.out HSm.out x n (by omega))
          generalize growR l (mS x, mA x n) = r1 at *
          obtain ⟨⟨cs, ca⟩, is⟩ := r1
          have HRt := Lib.hid hrt
          have hx6 := hx5.below ((Below.refl _ w5).alloc (Nat.le_refl _) (.cells #[.string (bs cs), .int .i64 (ca : Int)] 36))
          have hq6 := BxA.new w5 36 [.string (bs cs), .int .i64 (ca : Int)]
          have hbx6 := (hBx.out.below hb5).alloc (.cells #[.string (bs cs), .int .i64 (ca : Int)] 36)
          obtain ⟨w6, hw6⟩ : ∃ w6, w5.alloc (.cells #[.string (bs cs), .int .i64 (ca : Int)] 36) = w6 := ⟨_, rfl⟩
          rw [hw6] at hx6 hq6 hbx6
          have HX6 := Lib.hid hx6
          have HQ6 := Lib.hid hq6
          have m0 := hbx6.c 0 rfl
          have m1 := hbx6.c 1 rfl
          clear hx5 hb5 hx6 hq6 hbx6 hX hBx b0 b1 hrt
          go_wp2_with fail
          clear hw6
          refine (HG.out w6 HX6.out.row).mono ?_
          rintro e w7 ⟨rfl, hb7⟩
          have hx8 := (HX6.out.below hb7).below ((Below.refl _ w7).alloc (Nat.le_refl _) (.cells #[.string (bs cs), .int .i64 (ca : Int)] 24))
          have hq8 := (HQ6.out.below hb7).alloc (.cells #[.string (bs cs), .int .i64 (ca : Int)] 24)
          have hp8 := BxA.new w7 24 [.string (bs cs), .int .i64 (ca : Int)]
          obtain ⟨w8, hw8⟩ : ∃ w8, w7.alloc (.cells #[.string (bs cs), .int .i64 (ca : Int)] 24) = w8 := ⟨_, rfl⟩
          rw [hw8] at hx8 hq8 hp8
          have HX8 := Lib.hid hx8
          have HQ8 := Lib.hid hq8
          have HP8 := Lib.hid hp8
          clear hb7 hx8 hq8 hp8 HX6 HQ6 HG m0 m1
          go_wp2_with fail
          clear hw8
          refine (aalive_calls w8 (spans_below HS.out HX8.out.bel)).mono ?_
          rintro e w9 ⟨rfl, hb9⟩
          have HB9 := Lib.hid (HX8.out.bel.trans (hb9.mono HX8.out.bel.size))
          have hq9 := HQ8.out.below hb9
          have hp9 := HP8.out.below hb9
          have m0 := hq9.c 0 rfl
          have m1 := hq9.c 1 rfl
          have n0 := hp9.c 0 rfl
          have n1 := hp9.c 1 rfl
          have qe := reqT (bs cs) (ca : Int)
          have qb : (is == is) = true := beq_self_eq_true _
          have hRi : Hid (Calls Tryz.prog 9 #[.agg #[.string (bs cs), .int .i64 (ca : Int)]] w9 fun e w' => e = .returned (.bool true) ∧ Below w9.heap.size w9 w') := Lib.hid (by
            have := right_calls cs (ca : Int) (by have := HRt.out.2.1; omega) w9 (spans_below HS.out HB9.out)
            rw [rt_right HRt.out] at this
            exact this)
          clear hb9 hq9 hp9 HX8 HQ8 HP8
          go_wp2_with fail
          refine hRi.out.mono ?_
          rintro e w10 ⟨rfl, hb10⟩
          have HB10 := Lib.hid (HB9.out.trans (hb10.mono HB9.out.size))
          clear hb10 hRi
          go_wp2_with fail
          go_ret
          exact ⟨rfl, HB10.out⟩
  · rw [decide_eq_false hq] at Hfew
    clear hq
    go_enter Tryz.func3, Tryz.ntmps3
    go_wp2_with fail
    refine Hfew.out.mono ?_
    rintro e w1 ⟨rfl, hb1⟩
    have HBx2 := Lib.hid (HBx0.out.below hb1)
    have k0' := HBx2.out.c 0 rfl
    have HB1 := Lib.hid (HB0.out.trans (hb1.mono HB0.out.size))
    have hs1 : w.heap.size < w1.heap.size := Nat.lt_of_lt_of_le hs0 hb1.size
    clear hb1 Hfew k0 HBx0 hW0
    go_wp2_with fail
    refine (aalive_calls w1 (spans_below HS.out HB1.out)).mono ?_
    rintro e w9 ⟨rfl, hb9⟩
    have HB9 := Lib.hid (HB1.out.trans (hb9.mono (HB1.out).size))
    clear hb9
    go_wp2_with fail
    go_ret
    exact ⟨rfl, HB9.out⟩
end Go.Proofs.YtlmbafnoopfilaaGreatDoor
