/-
  The walk of RingAll.
-/
import Derived.Test.YtdpijbaolaignaaRPair
namespace Go.Proofs.Ytdpijbaolaignaa
open Go Go.RowKit
set_option maxRecDepth 100000

set_option maxHeartbeats 8000000 in
theorem rall_calls (n : Int) (A : Option Addr) (c : Nat) (os : List OpD) (w : World) (hO : RdO w A os) (hl : os.length ≤ 9223372036854775807) :
    Calls Try.prog 3 #[.int .i64 n, .slice A os.length c] w fun e w' => e = .returned (.bool true) ∧ Below w.heap.size w w' := by
  have Hfew := Lib.hid (few5_calls A c os w hO hl)
  by_cases hf : os.length ≤ 200 ∧ totO os ≤ 4000
  · have hdt : decide (os.length ≤ 200 ∧ totO os ≤ 4000) = true := decide_eq_true hf
    rw [hdt] at Hfew
    have HO := Lib.hid hO
    have Hf := Lib.hid hf
    clear hdt hf hO
    go_enter Try.func3, Try.ntmps3
    go_wp2_with fail
    refine Hfew.out.mono ?_
    rintro e w1 ⟨rfl, hb1⟩
    have HB1 := Lib.hid hb1
    have Hn := Lib.hid (new_callsS n w1)
    clear hb1 Hfew
    go_wp2_with fail
    refine Hn.out.mono ?_
    rintro e w2 ⟨rfl, hw2⟩
    have hr2 : RingS w2 (fun k => k = w1.heap.size) w1.heap.size (RS.new n) := by rw [← hw2]; exact newRingS n w1
    have hB2 : Below w1.heap.size w1 w2 := by rw [← hw2]; exact (Below.refl _ w1).alloc (Nat.le_refl _) _
    have Hr2 := Lib.hid hr2
    have HB2 : Hid (Below w.heap.size w w2) := Lib.hid (HB1.out.trans (hB2.mono HB1.out.size))
    have hz12 : w1.heap.size < w2.heap.size := hr2.lt _ rfl
    have Hrn := Lib.hid (rnew_calls n w2)
    clear hw2 hr2 hB2 Hn
    go_wp2_with fail
    refine Hrn.out.mono ?_
    rintro e w3 ⟨rfl, hb3⟩
    have HB3 : Hid (Below w.heap.size w w3) := Lib.hid (HB2.out.trans (hb3.mono HB2.out.size))
    have hz3 := hb3.size
    have Hr3 := Lib.hid (Hr2.out.below hb3)
    have hz1 := HB1.out.size
    have hp0 : PairAt w (w3.alloc (.cells #[.int .i64 ((RS.new n : RS ByteArray).lim : Int), .slice none (RS.new n : RS ByteArray).l.length 0, .int .i64 ((RS.new n : RS ByteArray).i : Int)] 29)) w3.heap.size w1.heap.size none 0 (RS.new n) :=
      ⟨_, Hr3.out.alloc _, fun i e => by subst e; omega, ⟨fun h => absurd h (by simp [RS.new]), by simp [RS.new], by unfold maxLen; omega, fun _ => rfl⟩, fun a e => (by cases e), Bx3.new w3 _ _ _ _, HB3.out.alloc HB3.out.size _, HB3.out.size⟩
    have Hp0 : Hid (PairAt w (w3.alloc (.cells #[.int .i64 ((RS.new n : RS ByteArray).lim : Int), .slice none (RS.new n : RS ByteArray).l.length 0, .int .i64 ((RS.new n : RS ByteArray).i : Int)] 29)) w3.heap.size w1.heap.size none 0 (runR (RS.new n) (os.take 0))) := Lib.hid hp0
    clear hb3 Hrn hp0 Hr2 Hr3 HB1 HB2 HB3 hz12 hz3 hz1
    unfold docV
    go_wp2_with fail
    go_loopw [5, 21] (fun v5 v21 wr => ∃ (k b : Nat) (A' : Option Addr) (c' : Nat), k ≤ os.length ∧ v21 = .int .i64 (k : Int) ∧ v5 = .pointer (some ⟨b, 0, none⟩) ∧ Hid (PairAt w wr w3.heap.size b A' c' (runR (RS.new n) (os.take k)))) (fun _ v21 _ => os.length - (intOf v21).toNat)
    case atStart => exact ⟨0, w1.heap.size, none, 0, Nat.zero_le _, rfl, rfl, Hp0⟩
    case round =>
      obtain ⟨k, b, A1, c1, hk, rfl, rfl, hpr⟩ := hrel
      by_cases hlt : k < os.length
      · obtain ⟨g, og, rfl, hg, e0, e1, _⟩ := (HO.out.below hpr.out.bel).at_ hlt
        have Hst := Lib.hid (runR_take (RS.new n) os k hlt)
        have hok : (runR (RS.new n) (os.take k) : RS ByteArray).Ok := runR_ok (RS.Ok.new n) _
        have Hok := Lib.hid hok
        have Hsm : Hid (∀ x ∈ (runR (RS.new n) (os.take k) : RS ByteArray).l, ¬ 9223372036854775807 < x.size + (os.getD k OpD.none_).t.size) := Lib.hid (fun x hx => by
          have h1 := small_run n os k (by omega) x hx
          have h2 := totO_take os k hlt
          have h3 := totO_mono os (k + 1) os.length (by omega)
          rw [List.take_length] at h3
          have h4 := Hf.out.2
          omega)
        have M4 : Hid (Bx (wr.alloc (.cells #[.int .i64 (os.getD k OpD.none_).k, .string (os.getD k OpD.none_).t] 32)) wr.heap.size 32 (.int .i64 (os.getD k OpD.none_).k) (.string (os.getD k OpD.none_).t)) := Lib.hid (Bx.new wr _ _ _)
        have Hlt : Hid (w3.heap.size < wr.heap.size) := Lib.hid hpr.out.box.lt
        have Hdoes := Lib.hid (hpr.out.does (os.getD k OpD.none_) Hsm.out (.cells #[.int .i64 (os.getD k OpD.none_).k, .string (os.getD k OpD.none_).t] 32))
        have p0 := (hpr.out.alloc (.cells #[.int .i64 (os.getD k OpD.none_).k, .string (os.getD k OpD.none_).t] 32)).box.c0
        have p1 := (hpr.out.alloc (.cells #[.int .i64 (os.getD k OpD.none_).k, .string (os.getD k OpD.none_).t] 32)).box.c1
        have p2 := (hpr.out.alloc (.cells #[.int .i64 (os.getD k OpD.none_).k, .string (os.getD k OpD.none_).t] 32)).box.c2
        clear Hp0 hpr hok
        generalize os.getD k OpD.none_ = o at *
        generalize (runR (RS.new n) (os.take k) : RS ByteArray) = st at *
        have hkl : (k : Int) < (os.length : Int) := by omega
        go_wp2_with fail
        refine wp_region_held_drew (S := (fun w' => w'.cell? ⟨wr.heap.size, 0, none⟩ = some (.int .i64 o.k) ∧ w'.cell? ⟨wr.heap.size, 1, none⟩ = some (.string o.t))) (by kernel_rfl) ⟨M4.out.c0, M4.out.c1⟩ (fun hHeld => ?_)
        refine wpAnyH_take (i := 0) (oi := ⟨some 25, _, _, _, _, _⟩) (v := ?_) rfl (by kernel_rfl) (by kernel_rfl) (by kernel_rfl) (fun _ _ _ h => h) (Or.inl ⟨by kernel_rfl, ?hy0⟩) (by assumption) ?_
        case hy0 => (intro w' hSw; (try dsimp only at hSw); go_simp; try with_reducible rfl)
        simp only [Act.put, List.setIfInBounds_toArray, List.set_cons_zero, List.set_cons_succ]
        refine wpAnyH_take (i := 1) (oi := ⟨some 26, _, _, _, _, _⟩) (v := ?_) rfl (by kernel_rfl) (by kernel_rfl) (by kernel_rfl) (fun _ _ _ h => h) (Or.inl ⟨by kernel_rfl, ?hy1⟩) (by assumption) ?_
        case hy1 => (intro w' hSw; (try dsimp only at hSw); go_simp; try with_reducible rfl)
        simp only [Act.put, List.setIfInBounds_toArray, List.set_cons_zero, List.set_cons_succ]
        refine wpAnyH_take (i := 4) (oi := ⟨some 29, _, _, _, _, _⟩) (v := ?_) rfl (by kernel_rfl) (by kernel_rfl) (by kernel_rfl) (fun _ _ _ h => h) (Or.inl ⟨by kernel_rfl, ?hy4⟩) (by assumption) ?_
        case hy4 => (intro w' hSw; (try dsimp only at hSw); go_simp; try with_reducible rfl)
        simp only [Act.put, List.setIfInBounds_toArray, List.set_cons_zero, List.set_cons_succ]
        refine wpAnyH_ready (rs := [2, 3]) (by kernel_rfl) (by simp) ?_
        refine AllReadyH.cons (o := ⟨some 27, _, _, _, _, _⟩) rfl (fun K hK => ?_) (AllReadyH.cons (o := ⟨some 28, _, _, _, _, _⟩) rfl (fun K hK => ?_) AllReadyH.nil)
        · (rw [if_pos (by kernel_rfl)])
          go_simp
          refine Hdoes.out.mono ?_
          rintro e w5 ⟨b', rfl, hp5, hk5⟩
          have m5 : Bx w5 wr.heap.size 32 (.int .i64 o.k) (.string o.t) := hk5.trans (Bx.new wr _ _ _)
          have Hp5 := Lib.hid hp5
          have M5 := Lib.hid m5
          have q0 := hp5.box.c0
          have q1 := hp5.box.c1
          have q2 := hp5.box.c2
          refine hK.out _ _ ⟨m5.c0, m5.c1⟩ (fun hHeld => ?_)
          clear hK K
          clear hp5 hk5 m5
          refine wpAnyH_ready (rs := [3]) (by kernel_rfl) (by simp) ?_
          refine AllReadyH.cons (o := ⟨some 28, _, _, _, _, _⟩) rfl (fun K hK => ?_) AllReadyH.nil
          (rw [if_pos (by kernel_rfl)])
          go_simp
          refine hK.out _ _ ⟨M5.out.c0, M5.out.c1⟩ (fun hHeld => ?_)
          clear hK K
          refine wpAnyH_ready (rs := [5]) (by kernel_rfl) (by simp) ?_
          refine AllReadyH.cons (o := ⟨some 30, _, _, _, _, _⟩) rfl (fun K hK => ?_) AllReadyH.nil
          (rw [if_pos (by kernel_rfl)])
          go_simp
          refine (Hp5.out.do_ Hok.out o Hsm.out).mono ?_
          rintro e w6 ⟨A', c', rfl, hp6, hb6⟩
          have m6 : Bx w6 wr.heap.size 32 (.int .i64 o.k) (.string o.t) := M5.out.below hb6
          have Hp6 := Lib.hid hp6
          have z0 := hp6.box.c0
          have z1 := hp6.box.c1
          have z2 := hp6.box.c2
          have g0 := hp6.box.f0
          have g1 := hp6.box.f1
          have g2 := hp6.box.f2
          have Hp7 := Lib.hid (hp6.store (.int .i64 ((doR st o).lim : Int)) (.slice A' (doR st o).l.length c') (.int .i64 ((doR st o).i : Int)))
          have k0 := m6.c0
          have k1 := m6.c1
          have M6 := Lib.hid m6
          have hne : w3.heap.size ≠ wr.heap.size := by have := Hlt.out; omega
          refine hK.out _ _ ⟨k0, k1⟩ (fun hHeld => ?_)
          clear hK K
          clear hp6 hb6 m6 q0 q1 q2
          refine wpAnyH_take (i := 6) (oi := ⟨some 5, _, _, _, _, _⟩) (v := ?_) rfl (by kernel_rfl) (by kernel_rfl) (by kernel_rfl) (fun _ _ _ h => h) (Or.inl ⟨by kernel_rfl, ?hy6⟩) (by assumption) ?_
          case hy6 => (intro w' hSw; (try dsimp only at hSw); go_simp; try with_reducible rfl)
          simp only [Act.put, List.setIfInBounds_toArray, List.set_cons_zero, List.set_cons_succ]
          have y0 : ((((w6.setCell ⟨w3.heap.size, 0, none⟩ (.int .i64 ((doR st o).lim : Int))).setCell ⟨w3.heap.size, 1, none⟩ (.slice A' (doR st o).l.length c')).setCell ⟨w3.heap.size, 2, none⟩ (.int .i64 ((doR st o).i : Int)))).cell? ⟨wr.heap.size, 0, none⟩ = some (.int .i64 o.k) := by
            rw [World.cell?_setCell_far _ _ _ _ (by simpa using hne), World.cell?_setCell_far _ _ _ _ (by simpa using hne), World.cell?_setCell_far _ _ _ _ (by simpa using hne)]; exact k0
          have y1 : ((((w6.setCell ⟨w3.heap.size, 0, none⟩ (.int .i64 ((doR st o).lim : Int))).setCell ⟨w3.heap.size, 1, none⟩ (.slice A' (doR st o).l.length c')).setCell ⟨w3.heap.size, 2, none⟩ (.int .i64 ((doR st o).i : Int)))).cell? ⟨wr.heap.size, 1, none⟩ = some (.string o.t) := by
            rw [World.cell?_setCell_far _ _ _ _ (by simpa using hne), World.cell?_setCell_far _ _ _ _ (by simpa using hne), World.cell?_setCell_far _ _ _ _ (by simpa using hne)]; exact k1
          refine wpAnyH_ready (rs := [7]) (by kernel_rfl) (by simp) ?_
          refine AllReadyH.cons (o := ⟨none, _, _, _, _, _⟩) rfl (fun K hK => ?_) AllReadyH.nil
          (rw [if_pos (by kernel_rfl)])
          go_simp
          refine hK.out _ _ ⟨y0, y1⟩ (fun hHeld => ?_)
          clear hK K
          refine wpAnyH_done (by kernel_rfl) ?_ _
          have n0 := Hp7.out.box.c0
          have n1 := Hp7.out.box.c1
          have n2 := Hp7.out.box.c2
          clear z0 z1 z2 g0 g1 g2 k0 k1 y0 y1 hHeld M5 M6 Hp5 Hp6
          have Hst7 := Lib.hid Hp7.out.stands
          go_wp2_with fail
          refine Hst7.out.mono ?_
          rintro e w8 ⟨rfl, hb8⟩
          have Hp8 := Lib.hid (Hp7.out.below hb8)
          clear hb8 Hst7 Hp7 n0 n1 n2
          go_wp2_with fail
          go_roundw
          case rel => exact ⟨k + 1, b', A', c', by omega, by go_num, rfl, by rw [Hst.out]; exact Hp8⟩
          case measure => simp [intOf]; omega
        · (rw [if_pos (by kernel_rfl)])
          go_simp
          refine hK.out _ _ ⟨M4.out.c0, M4.out.c1⟩ (fun hHeld => ?_)
          clear hK K
          refine wpAnyH_ready (rs := [2]) (by kernel_rfl) (by simp) ?_
          refine AllReadyH.cons (o := ⟨some 27, _, _, _, _, _⟩) rfl (fun K hK => ?_) AllReadyH.nil
          (rw [if_pos (by kernel_rfl)])
          go_simp
          refine Hdoes.out.mono ?_
          rintro e w5 ⟨b', rfl, hp5, hk5⟩
          have m5 : Bx w5 wr.heap.size 32 (.int .i64 o.k) (.string o.t) := hk5.trans (Bx.new wr _ _ _)
          have Hp5 := Lib.hid hp5
          have M5 := Lib.hid m5
          have q0 := hp5.box.c0
          have q1 := hp5.box.c1
          have q2 := hp5.box.c2
          refine hK.out _ _ ⟨m5.c0, m5.c1⟩ (fun hHeld => ?_)
          clear hK K
          clear hp5 hk5 m5
          refine wpAnyH_ready (rs := [5]) (by kernel_rfl) (by simp) ?_
          refine AllReadyH.cons (o := ⟨some 30, _, _, _, _, _⟩) rfl (fun K hK => ?_) AllReadyH.nil
          (rw [if_pos (by kernel_rfl)])
          go_simp
          refine (Hp5.out.do_ Hok.out o Hsm.out).mono ?_
          rintro e w6 ⟨A', c', rfl, hp6, hb6⟩
          have m6 : Bx w6 wr.heap.size 32 (.int .i64 o.k) (.string o.t) := M5.out.below hb6
          have Hp6 := Lib.hid hp6
          have z0 := hp6.box.c0
          have z1 := hp6.box.c1
          have z2 := hp6.box.c2
          have g0 := hp6.box.f0
          have g1 := hp6.box.f1
          have g2 := hp6.box.f2
          have Hp7 := Lib.hid (hp6.store (.int .i64 ((doR st o).lim : Int)) (.slice A' (doR st o).l.length c') (.int .i64 ((doR st o).i : Int)))
          have k0 := m6.c0
          have k1 := m6.c1
          have M6 := Lib.hid m6
          have hne : w3.heap.size ≠ wr.heap.size := by have := Hlt.out; omega
          refine hK.out _ _ ⟨k0, k1⟩ (fun hHeld => ?_)
          clear hK K
          clear hp6 hb6 m6 q0 q1 q2
          refine wpAnyH_take (i := 6) (oi := ⟨some 5, _, _, _, _, _⟩) (v := ?_) rfl (by kernel_rfl) (by kernel_rfl) (by kernel_rfl) (fun _ _ _ h => h) (Or.inl ⟨by kernel_rfl, ?hy6⟩) (by assumption) ?_
          case hy6 => (intro w' hSw; (try dsimp only at hSw); go_simp; try with_reducible rfl)
          simp only [Act.put, List.setIfInBounds_toArray, List.set_cons_zero, List.set_cons_succ]
          have y0 : ((((w6.setCell ⟨w3.heap.size, 0, none⟩ (.int .i64 ((doR st o).lim : Int))).setCell ⟨w3.heap.size, 1, none⟩ (.slice A' (doR st o).l.length c')).setCell ⟨w3.heap.size, 2, none⟩ (.int .i64 ((doR st o).i : Int)))).cell? ⟨wr.heap.size, 0, none⟩ = some (.int .i64 o.k) := by
            rw [World.cell?_setCell_far _ _ _ _ (by simpa using hne), World.cell?_setCell_far _ _ _ _ (by simpa using hne), World.cell?_setCell_far _ _ _ _ (by simpa using hne)]; exact k0
          have y1 : ((((w6.setCell ⟨w3.heap.size, 0, none⟩ (.int .i64 ((doR st o).lim : Int))).setCell ⟨w3.heap.size, 1, none⟩ (.slice A' (doR st o).l.length c')).setCell ⟨w3.heap.size, 2, none⟩ (.int .i64 ((doR st o).i : Int)))).cell? ⟨wr.heap.size, 1, none⟩ = some (.string o.t) := by
            rw [World.cell?_setCell_far _ _ _ _ (by simpa using hne), World.cell?_setCell_far _ _ _ _ (by simpa using hne), World.cell?_setCell_far _ _ _ _ (by simpa using hne)]; exact k1
          refine wpAnyH_ready (rs := [7]) (by kernel_rfl) (by simp) ?_
          refine AllReadyH.cons (o := ⟨none, _, _, _, _, _⟩) rfl (fun K hK => ?_) AllReadyH.nil
          (rw [if_pos (by kernel_rfl)])
          go_simp
          refine hK.out _ _ ⟨y0, y1⟩ (fun hHeld => ?_)
          clear hK K
          refine wpAnyH_done (by kernel_rfl) ?_ _
          have n0 := Hp7.out.box.c0
          have n1 := Hp7.out.box.c1
          have n2 := Hp7.out.box.c2
          clear z0 z1 z2 g0 g1 g2 k0 k1 y0 y1 hHeld M5 M6 Hp5 Hp6
          have Hst7 := Lib.hid Hp7.out.stands
          go_wp2_with fail
          refine Hst7.out.mono ?_
          rintro e w8 ⟨rfl, hb8⟩
          have Hp8 := Lib.hid (Hp7.out.below hb8)
          clear hb8 Hst7 Hp7 n0 n1 n2
          go_wp2_with fail
          go_roundw
          case rel => exact ⟨k + 1, b', A', c', by omega, by go_num, rfl, by rw [Hst.out]; exact Hp8⟩
          case measure => simp [intOf]; omega
      · obtain rfl : k = os.length := by omega
        have HB := Lib.hid hpr.out.bel
        have Hal := Lib.hid (ralive_calls wr)
        clear hpr Hp0
        go_wp2_with fail
        refine Hal.out.mono ?_
        rintro e w9 ⟨rfl, hb9⟩
        have HB9 := Lib.hid (HB.out.trans (hb9.mono HB.out.size))
        clear hb9 Hal
        go_wp2
        go_ret
        exact ⟨rfl, HB9.out⟩
  · have hdf : decide (os.length ≤ 200 ∧ totO os ≤ 4000) = false := decide_eq_false hf
    rw [hdf] at Hfew
    clear hdf hf hO
    go_enter Try.func3, Try.ntmps3
    go_wp2_with fail
    refine Hfew.out.mono ?_
    rintro e w1 ⟨rfl, hb1⟩
    have HB1 := Lib.hid hb1
    have Hal := Lib.hid (ralive_calls w1)
    clear hb1 Hfew
    go_wp2_with fail
    refine Hal.out.mono ?_
    rintro e w9 ⟨rfl, hb9⟩
    have HB9 := Lib.hid (HB1.out.trans (hb9.mono HB1.out.size))
    clear hb9 Hal
    go_wp2
    go_ret
    exact ⟨rfl, HB9.out⟩
end Go.Proofs.Ytdpijbaolaignaa
