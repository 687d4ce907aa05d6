/-
  The walk of RingChanges.
-/
import Derived.Test.YtdpijbaolaignaaRPair
namespace Go.Proofs.Ytdpijbaolaignaa
open Go Go.RowKit
set_option maxRecDepth 100000

set_option maxHeartbeats 1000000 in
theorem more_calls (more x : ByteArray) (g : Nat) (w : World) (hc : w.cell? ⟨g, 0, none⟩ = some (.string more)) (hs : ¬ 9223372036854775807 < more.size + x.size) :
    Calls Try.prog 26 #[.string x, .pointer (some ⟨g, 0, none⟩)] w fun e w' => e = .returned (.string (more ++ x)) ∧ Below w.heap.size w w' := by
  go_enter Try.func26, Try.ntmps26
  go_wp2
  go_ret
  exact ⟨rfl, Below.refl _ _⟩

set_option maxHeartbeats 8000000 in
theorem rchanges_calls (n : Int) (A : Option Addr) (c : Nat) (os : List OpD) (more : ByteArray) (w : World) (hO : RdO w A os) (hl : os.length ≤ 9223372036854775807) (hmo : more.size ≤ 9223372036854775807) :
    Calls Try.prog 8 #[.int .i64 n, .slice A os.length c, .string more] w fun e w' => e = .returned (.bool true) ∧ Below w.heap.size w w' := by
  obtain ⟨w0, hw0⟩ : ∃ w0, w.alloc (.cells #[.string more] 9) = w0 := ⟨_, rfl⟩
  have hB0 : Below w.heap.size w w0 := by rw [← hw0]; exact (Below.refl _ w).alloc (Nat.le_refl _) _
  have hx0 : Boxed w0 w.heap.size 9 (.string more) := by rw [← hw0]; exact Boxed.new w _ _
  have cx0 := hx0.cell
  have HB0 := Lib.hid hB0
  have HX0 := Lib.hid hx0
  have hO0 := hO.below hB0
  have Hfew := Lib.hid (few5_calls A c os w0 hO0 hl)
  clear hB0 hx0 hO
  by_cases hf : os.length ≤ 200 ∧ totO os ≤ 4000
  · by_cases hmore : 200 < more.size
    · have hdf : decide (os.length ≤ 200 ∧ totO os ≤ 4000) = true := decide_eq_true hf
      rw [hdf] at Hfew
      clear hdf hf hO0
      have cx1 : ∀ w1, Below w0.heap.size w0 w1 → w1.cell? ⟨w.heap.size, 0, none⟩ = some (.string more) := fun w1 hb => (hb.cell (p := ⟨w.heap.size, 0, none⟩) HX0.out.lt).trans HX0.out.cell
      have hd2 : decide ((200 : Int) < (more.size : Int)) = true := decide_eq_true (by omega)
      go_enter Try.func8, Try.ntmps8
      go_wp2_with fail
      refine Hfew.out.mono ?_
      rintro e w1 ⟨rfl, hb1⟩
      have cx2 := cx1 w1 hb1
      clear cx1
      have HB1 := Lib.hid hb1
      have Hal := Lib.hid (ralive_calls w1)
      clear hb1 Hfew
      go_wp2_with fail
      refine Hal.out.mono ?_
      rintro e w9 ⟨rfl, hb9⟩
      have HB9 := Lib.hid (HB0.out.trans ((HB1.out.trans (hb9.mono HB1.out.size)).mono HB0.out.size))
      clear hb9 Hal
      go_wp2
      go_ret
      exact ⟨rfl, HB9.out⟩
    · have hdt : decide (os.length ≤ 200 ∧ totO os ≤ 4000) = true := decide_eq_true hf
      rw [hdt] at Hfew
      have HO := Lib.hid hO0
      have Hf := Lib.hid hf
      clear hdt hf hO0
      have cx1 : ∀ w1, Below w0.heap.size w0 w1 → w1.cell? ⟨w.heap.size, 0, none⟩ = some (.string more) := fun w1 hb => (hb.cell (p := ⟨w.heap.size, 0, none⟩) HX0.out.lt).trans HX0.out.cell
      have hd2 : decide ((200 : Int) < (more.size : Int)) = false := decide_eq_false (by omega)
      have Hmore : Hid (more.size ≤ 200) := Lib.hid (by omega)
      go_enter Try.func8, Try.ntmps8
      go_wp2_with fail
      refine Hfew.out.mono ?_
      rintro e w1 ⟨rfl, hb1⟩
      have cx2 := cx1 w1 hb1
      have Cx1 := Lib.hid cx1
      clear cx1
      have HB1 := Lib.hid hb1
      have Hn := Lib.hid (new_callsS n w1)
      clear hb1 Hfew hw0 cx0
      go_wp2_with fail
      refine Hn.out.mono ?_
      rintro e w2 ⟨rfl, hw2⟩
      have hr2 : RingS w2 (fun k => k = w1.heap.size) w1.heap.size (RS.new n) := by rw [← hw2]; exact newRingS n w1
      have hB2 : Below w1.heap.size w1 w2 := by rw [← hw2]; exact (Below.refl _ w1).alloc (Nat.le_refl _) _
      have Hr2 := Lib.hid hr2
      have HB2 : Hid (Below w0.heap.size w0 w2) := Lib.hid (HB1.out.trans (hB2.mono HB1.out.size))
      have hz12 : w1.heap.size < w2.heap.size := hr2.lt _ rfl
      have Hrn := Lib.hid (rnew_calls n w2)
      clear hw2 hr2 hB2 Hn
      go_wp2_with fail
      refine Hrn.out.mono ?_
      rintro e w3 ⟨rfl, hb3⟩
      have HB3 : Hid (Below w0.heap.size w0 w3) := Lib.hid (HB2.out.trans (hb3.mono HB2.out.size))
      have hz3 := hb3.size
      have Hr3 := Lib.hid (Hr2.out.below hb3)
      have hz1 := HB1.out.size
      have hp0 : PairAt w0 (w3.alloc (.cells #[.int .i64 ((RS.new n : RS ByteArray).lim : Int), .slice none (RS.new n : RS ByteArray).l.length 0, .int .i64 ((RS.new n : RS ByteArray).i : Int)] 29)) w3.heap.size w1.heap.size none 0 (RS.new n) :=
        ⟨_, Hr3.out.alloc _, fun i e => by subst e; omega, ⟨fun h => absurd h (by simp [RS.new]), by simp [RS.new], by unfold maxLen; omega, fun _ => rfl⟩, fun a e => (by cases e), Bx3.new w3 _ _ _ _, HB3.out.alloc HB3.out.size _, HB3.out.size⟩
      have Hp0 : Hid (PairAt w0 (w3.alloc (.cells #[.int .i64 ((RS.new n : RS ByteArray).lim : Int), .slice none (RS.new n : RS ByteArray).l.length 0, .int .i64 ((RS.new n : RS ByteArray).i : Int)] 29)) w3.heap.size w1.heap.size none 0 (runR (RS.new n) (os.take 0))) := Lib.hid hp0
      clear hb3 Hrn hp0 Hr2 Hr3 HB1 HB2 HB3 hz12 hz3 hz1
      unfold docV
      go_wp2_with fail
      go_loopw [7, 29] (fun v5 v21 wr => ∃ (k b : Nat) (A' : Option Addr) (c' : Nat), k ≤ os.length ∧ v21 = .int .i64 (k : Int) ∧ v5 = .pointer (some ⟨b, 0, none⟩) ∧ Hid (PairAt w0 wr w3.heap.size b A' c' (runR (RS.new n) (os.take k)))) (fun _ v21 _ => os.length - (intOf v21).toNat)
      case atStart => exact ⟨0, w1.heap.size, none, 0, Nat.zero_le _, rfl, rfl, Hp0⟩
      case round =>
        obtain ⟨k, b, A1, c1, hk, rfl, rfl, hpr⟩ := hrel
        by_cases hlt : k < os.length
        · obtain ⟨g, og, rfl, hg, e0, e1, _⟩ := (HO.out.below hpr.out.bel).at_ hlt
          have Hst := Lib.hid (runR_take (RS.new n) os k hlt)
          have hok : (runR (RS.new n) (os.take k) : RS ByteArray).Ok := runR_ok (RS.Ok.new n) _
          have Hok := Lib.hid hok
          have Hsm : Hid (∀ x ∈ (runR (RS.new n) (os.take k) : RS ByteArray).l, ¬ 9223372036854775807 < x.size + (os.getD k OpD.none_).t.size) := Lib.hid (fun x hx => by
            have h1 := small_run n os k (by omega) x hx
            have h2 := totO_take os k hlt
            have h3 := totO_mono os (k + 1) os.length (by omega)
            rw [List.take_length] at h3
            have h4 := Hf.out.2
            omega)
          have M4 : Hid (Bx (wr.alloc (.cells #[.int .i64 (os.getD k OpD.none_).k, .string (os.getD k OpD.none_).t] 32)) wr.heap.size 32 (.int .i64 (os.getD k OpD.none_).k) (.string (os.getD k OpD.none_).t)) := Lib.hid (Bx.new wr _ _ _)
          have Hlt : Hid (w3.heap.size < wr.heap.size) := Lib.hid hpr.out.box.lt
          have Hdoes := Lib.hid (hpr.out.does (os.getD k OpD.none_) Hsm.out (.cells #[.int .i64 (os.getD k OpD.none_).k, .string (os.getD k OpD.none_).t] 32))
          have p0 := (hpr.out.alloc (.cells #[.int .i64 (os.getD k OpD.none_).k, .string (os.getD k OpD.none_).t] 32)).box.c0
          have p1 := (hpr.out.alloc (.cells #[.int .i64 (os.getD k OpD.none_).k, .string (os.getD k OpD.none_).t] 32)).box.c1
          have p2 := (hpr.out.alloc (.cells #[.int .i64 (os.getD k OpD.none_).k, .string (os.getD k OpD.none_).t] 32)).box.c2
          clear Hp0 hpr hok
          generalize os.getD k OpD.none_ = o at *
          generalize (runR (RS.new n) (os.take k) : RS ByteArray) = st at *
          have hkl : (k : Int) < (os.length : Int) := by omega
          go_wp2_with fail
          refine wp_region_held_drew (S := (fun w' => w'.cell? ⟨wr.heap.size, 0, none⟩ = some (.int .i64 o.k) ∧ w'.cell? ⟨wr.heap.size, 1, none⟩ = some (.string o.t))) (by kernel_rfl) ⟨M4.out.c0, M4.out.c1⟩ (fun hHeld => ?_)
          refine wpAnyH_take (i := 0) (oi := ⟨some 33, _, _, _, _, _⟩) (v := ?_) rfl (by kernel_rfl) (by kernel_rfl) (by kernel_rfl) (fun _ _ _ h => h) (Or.inl ⟨by kernel_rfl, ?hy0⟩) (by assumption) ?_
          case hy0 => (intro w' hSw; (try dsimp only at hSw); go_simp; try with_reducible rfl)
          simp only [Act.put, List.setIfInBounds_toArray, List.set_cons_zero, List.set_cons_succ]
          refine wpAnyH_take (i := 1) (oi := ⟨some 34, _, _, _, _, _⟩) (v := ?_) rfl (by kernel_rfl) (by kernel_rfl) (by kernel_rfl) (fun _ _ _ h => h) (Or.inl ⟨by kernel_rfl, ?hy1⟩) (by assumption) ?_
          case hy1 => (intro w' hSw; (try dsimp only at hSw); go_simp; try with_reducible rfl)
          simp only [Act.put, List.setIfInBounds_toArray, List.set_cons_zero, List.set_cons_succ]
          refine wpAnyH_take (i := 4) (oi := ⟨some 37, _, _, _, _, _⟩) (v := ?_) rfl (by kernel_rfl) (by kernel_rfl) (by kernel_rfl) (fun _ _ _ h => h) (Or.inl ⟨by kernel_rfl, ?hy4⟩) (by assumption) ?_
          case hy4 => (intro w' hSw; (try dsimp only at hSw); go_simp; try with_reducible rfl)
          simp only [Act.put, List.setIfInBounds_toArray, List.set_cons_zero, List.set_cons_succ]
          refine wpAnyH_ready (rs := [2, 3]) (by kernel_rfl) (by simp) ?_
          refine AllReadyH.cons (o := ⟨some 35, _, _, _, _, _⟩) rfl (fun K hK => ?_) (AllReadyH.cons (o := ⟨some 36, _, _, _, _, _⟩) rfl (fun K hK => ?_) AllReadyH.nil)
          · (rw [if_pos (by kernel_rfl)])
            go_simp
            refine Hdoes.out.mono ?_
            rintro e w5 ⟨b', rfl, hp5, hk5⟩
            have m5 : Bx w5 wr.heap.size 32 (.int .i64 o.k) (.string o.t) := hk5.trans (Bx.new wr _ _ _)
            have Hp5 := Lib.hid hp5
            have M5 := Lib.hid m5
            have q0 := hp5.box.c0
            have q1 := hp5.box.c1
            have q2 := hp5.box.c2
            refine hK.out _ _ ⟨m5.c0, m5.c1⟩ (fun hHeld => ?_)
            clear hK K
            clear hp5 hk5 m5
            refine wpAnyH_ready (rs := [3]) (by kernel_rfl) (by simp) ?_
            refine AllReadyH.cons (o := ⟨some 36, _, _, _, _, _⟩) rfl (fun K hK => ?_) AllReadyH.nil
            (rw [if_pos (by kernel_rfl)])
            go_simp
            refine hK.out _ _ ⟨M5.out.c0, M5.out.c1⟩ (fun hHeld => ?_)
            clear hK K
            refine wpAnyH_ready (rs := [5]) (by kernel_rfl) (by simp) ?_
            refine AllReadyH.cons (o := ⟨some 38, _, _, _, _, _⟩) rfl (fun K hK => ?_) AllReadyH.nil
            (rw [if_pos (by kernel_rfl)])
            go_simp
            refine (Hp5.out.do_ Hok.out o Hsm.out).mono ?_
            rintro e w6 ⟨A', c', rfl, hp6, hb6⟩
            have m6 : Bx w6 wr.heap.size 32 (.int .i64 o.k) (.string o.t) := M5.out.below hb6
            have Hp6 := Lib.hid hp6
            have z0 := hp6.box.c0
            have z1 := hp6.box.c1
            have z2 := hp6.box.c2
            have g0 := hp6.box.f0
            have g1 := hp6.box.f1
            have g2 := hp6.box.f2
            have Hp7 := Lib.hid (hp6.store (.int .i64 ((doR st o).lim : Int)) (.slice A' (doR st o).l.length c') (.int .i64 ((doR st o).i : Int)))
            have k0 := m6.c0
            have k1 := m6.c1
            have M6 := Lib.hid m6
            have hne : w3.heap.size ≠ wr.heap.size := by have := Hlt.out; omega
            refine hK.out _ _ ⟨k0, k1⟩ (fun hHeld => ?_)
            clear hK K
            clear hp6 hb6 m6 q0 q1 q2
            refine wpAnyH_take (i := 6) (oi := ⟨some 7, _, _, _, _, _⟩) (v := ?_) rfl (by kernel_rfl) (by kernel_rfl) (by kernel_rfl) (fun _ _ _ h => h) (Or.inl ⟨by kernel_rfl, ?hy6⟩) (by assumption) ?_
            case hy6 => (intro w' hSw; (try dsimp only at hSw); go_simp; try with_reducible rfl)
            simp only [Act.put, List.setIfInBounds_toArray, List.set_cons_zero, List.set_cons_succ]
            have y0 : ((((w6.setCell ⟨w3.heap.size, 0, none⟩ (.int .i64 ((doR st o).lim : Int))).setCell ⟨w3.heap.size, 1, none⟩ (.slice A' (doR st o).l.length c')).setCell ⟨w3.heap.size, 2, none⟩ (.int .i64 ((doR st o).i : Int)))).cell? ⟨wr.heap.size, 0, none⟩ = some (.int .i64 o.k) := by
              rw [World.cell?_setCell_far _ _ _ _ (by simpa using hne), World.cell?_setCell_far _ _ _ _ (by simpa using hne), World.cell?_setCell_far _ _ _ _ (by simpa using hne)]; exact k0
            have y1 : ((((w6.setCell ⟨w3.heap.size, 0, none⟩ (.int .i64 ((doR st o).lim : Int))).setCell ⟨w3.heap.size, 1, none⟩ (.slice A' (doR st o).l.length c')).setCell ⟨w3.heap.size, 2, none⟩ (.int .i64 ((doR st o).i : Int)))).cell? ⟨wr.heap.size, 1, none⟩ = some (.string o.t) := by
              rw [World.cell?_setCell_far _ _ _ _ (by simpa using hne), World.cell?_setCell_far _ _ _ _ (by simpa using hne), World.cell?_setCell_far _ _ _ _ (by simpa using hne)]; exact k1
            refine wpAnyH_ready (rs := [7]) (by kernel_rfl) (by simp) ?_
            refine AllReadyH.cons (o := ⟨none, _, _, _, _, _⟩) rfl (fun K hK => ?_) AllReadyH.nil
            (rw [if_pos (by kernel_rfl)])
            go_simp
            refine hK.out _ _ ⟨y0, y1⟩ (fun hHeld => ?_)
            clear hK K
            refine wpAnyH_done (by kernel_rfl) ?_ _
            have n0 := Hp7.out.box.c0
            have n1 := Hp7.out.box.c1
            have n2 := Hp7.out.box.c2
            clear z0 z1 z2 g0 g1 g2 k0 k1 y0 y1 hHeld M5 M6 Hp5 Hp6
            clear n0 n1 n2
            go_wp2_with fail
            go_roundw
            case rel => exact ⟨k + 1, b', A', c', by omega, by go_num, rfl, by rw [Hst.out]; exact Hp7⟩
            case measure => simp [intOf]; omega
          · (rw [if_pos (by kernel_rfl)])
            go_simp
            refine hK.out _ _ ⟨M4.out.c0, M4.out.c1⟩ (fun hHeld => ?_)
            clear hK K
            refine wpAnyH_ready (rs := [2]) (by kernel_rfl) (by simp) ?_
            refine AllReadyH.cons (o := ⟨some 35, _, _, _, _, _⟩) rfl (fun K hK => ?_) AllReadyH.nil
            (rw [if_pos (by kernel_rfl)])
            go_simp
            refine Hdoes.out.mono ?_
            rintro e w5 ⟨b', rfl, hp5, hk5⟩
            have m5 : Bx w5 wr.heap.size 32 (.int .i64 o.k) (.string o.t) := hk5.trans (Bx.new wr _ _ _)
            have Hp5 := Lib.hid hp5
            have M5 := Lib.hid m5
            have q0 := hp5.box.c0
            have q1 := hp5.box.c1
            have q2 := hp5.box.c2
            refine hK.out _ _ ⟨m5.c0, m5.c1⟩ (fun hHeld => ?_)
            clear hK K
            clear hp5 hk5 m5
            refine wpAnyH_ready (rs := [5]) (by kernel_rfl) (by simp) ?_
            refine AllReadyH.cons (o := ⟨some 38, _, _, _, _, _⟩) rfl (fun K hK => ?_) AllReadyH.nil
            (rw [if_pos (by kernel_rfl)])
            go_simp
            refine (Hp5.out.do_ Hok.out o Hsm.out).mono ?_
            rintro e w6 ⟨A', c', rfl, hp6, hb6⟩
            have m6 : Bx w6 wr.heap.size 32 (.int .i64 o.k) (.string o.t) := M5.out.below hb6
            have Hp6 := Lib.hid hp6
            have z0 := hp6.box.c0
            have z1 := hp6.box.c1
            have z2 := hp6.box.c2
            have g0 := hp6.box.f0
            have g1 := hp6.box.f1
            have g2 := hp6.box.f2
            have Hp7 := Lib.hid (hp6.store (.int .i64 ((doR st o).lim : Int)) (.slice A' (doR st o).l.length c') (.int .i64 ((doR st o).i : Int)))
            have k0 := m6.c0
            have k1 := m6.c1
            have M6 := Lib.hid m6
            have hne : w3.heap.size ≠ wr.heap.size := by have := Hlt.out; omega
            refine hK.out _ _ ⟨k0, k1⟩ (fun hHeld => ?_)
            clear hK K
            clear hp6 hb6 m6 q0 q1 q2
            refine wpAnyH_take (i := 6) (oi := ⟨some 7, _, _, _, _, _⟩) (v := ?_) rfl (by kernel_rfl) (by kernel_rfl) (by kernel_rfl) (fun _ _ _ h => h) (Or.inl ⟨by kernel_rfl, ?hy6⟩) (by assumption) ?_
            case hy6 => (intro w' hSw; (try dsimp only at hSw); go_simp; try with_reducible rfl)
            simp only [Act.put, List.setIfInBounds_toArray, List.set_cons_zero, List.set_cons_succ]
            have y0 : ((((w6.setCell ⟨w3.heap.size, 0, none⟩ (.int .i64 ((doR st o).lim : Int))).setCell ⟨w3.heap.size, 1, none⟩ (.slice A' (doR st o).l.length c')).setCell ⟨w3.heap.size, 2, none⟩ (.int .i64 ((doR st o).i : Int)))).cell? ⟨wr.heap.size, 0, none⟩ = some (.int .i64 o.k) := by
              rw [World.cell?_setCell_far _ _ _ _ (by simpa using hne), World.cell?_setCell_far _ _ _ _ (by simpa using hne), World.cell?_setCell_far _ _ _ _ (by simpa using hne)]; exact k0
            have y1 : ((((w6.setCell ⟨w3.heap.size, 0, none⟩ (.int .i64 ((doR st o).lim : Int))).setCell ⟨w3.heap.size, 1, none⟩ (.slice A' (doR st o).l.length c')).setCell ⟨w3.heap.size, 2, none⟩ (.int .i64 ((doR st o).i : Int)))).cell? ⟨wr.heap.size, 1, none⟩ = some (.string o.t) := by
              rw [World.cell?_setCell_far _ _ _ _ (by simpa using hne), World.cell?_setCell_far _ _ _ _ (by simpa using hne), World.cell?_setCell_far _ _ _ _ (by simpa using hne)]; exact k1
            refine wpAnyH_ready (rs := [7]) (by kernel_rfl) (by simp) ?_
            refine AllReadyH.cons (o := ⟨none, _, _, _, _, _⟩) rfl (fun K hK => ?_) AllReadyH.nil
            (rw [if_pos (by kernel_rfl)])
            go_simp
            refine hK.out _ _ ⟨y0, y1⟩ (fun hHeld => ?_)
            clear hK K
            refine wpAnyH_done (by kernel_rfl) ?_ _
            have n0 := Hp7.out.box.c0
            have n1 := Hp7.out.box.c1
            have n2 := Hp7.out.box.c2
            clear z0 z1 z2 g0 g1 g2 k0 k1 y0 y1 hHeld M5 M6 Hp5 Hp6
            clear n0 n1 n2
            go_wp2_with fail
            go_roundw
            case rel => exact ⟨k + 1, b', A', c', by omega, by go_num, rfl, by rw [Hst.out]; exact Hp7⟩
            case measure => simp [intOf]; omega
        · obtain rfl : k = os.length := by omega
          clear Hp0
          have hsm := small_run n os os.length (Nat.le_refl _)
          have h4 := Hf.out.2
          rw [List.take_length] at hsm
          obtain ⟨st, hst⟩ : ∃ st : RS ByteArray, runR (RS.new n) os = st := ⟨_, rfl⟩
          have hpr : Hid (PairAt w0 wr w3.heap.size b A1 c1 st) := by rw [← hst]; rw [List.take_length] at hpr; exact hpr
          rw [hst] at hsm
          have Hsm : Hid (∀ x ∈ st.l, ¬ 9223372036854775807 < more.size + x.size) := Lib.hid (fun x hx => by have := hsm x hx; have := Hmore.out; omega)
          have hln := hpr.out.ok.len
          have hle := hpr.out.ok.le
          have hz0 := HX0.out.lt
          have hzr := hpr.out.bel.size
          have cmr := Cx1.out wr hpr.out.bel
          have Hch := Lib.hid (hpr.out.step (f := 25) (args := #[.pointer (some ⟨b, 0, none⟩), .func (.func 26) #[] #[.pointer (some ⟨w.heap.size, 0, none⟩)]]) (E := fun e => e = .returned (.bool (decide (0 < st.l.length)))) (s'' := st.change (more ++ ·)) (fun R hR => change_callsS wr R b st hR 26 #[.pointer (some ⟨w.heap.size, 0, none⟩)] (enters_of Try.func26 (by kernel_rfl) rfl) (more ++ ·)
            (fun W x hb hx => more_calls more x w.heap.size W ((hb.cell (p := ⟨w.heap.size, 0, none⟩) (by show w.heap.size < wr.heap.size; omega)).trans cmr) (Hsm.out x (List.mem_of_getElem? hx)))))
          have Hpr := Lib.hid hpr.out
          clear hst hsm h4 hpr cmr
          cases hl : st.l with
          | nil =>
            rw [show decide (0 < st.l.length) = false by rw [hl]; rfl] at Hch
            have hn0 : st.l.length = 0 := by rw [hl]; rfl
            have Hn0 := Lib.hid hn0
            have Hl := Lib.hid hl
            clear hl hn0
            go_wp2_with fail
            refine Hch.out.mono ?_
            rintro e w5 ⟨rfl, hp5⟩
            have cd : w5.cell? ⟨w3.heap.size, 1, none⟩ = some (.slice A1 0 c1) := by
              have := hp5.box.c1
              rw [Hn0.out] at this
              exact this
            have Hal5 := Lib.hid (ralive_calls w5)
            have Hp5 := Lib.hid hp5
            clear hp5 Hch
            go_wp2_with fail
            refine Hal5.out.mono ?_
            rintro e w6 ⟨rfl, hb6⟩
            have Hp6 := Lib.hid (Hp5.out.below hb6)
            obtain ⟨R6, r6⟩ := Hp6.out.ring
            have hlen := len_callsS w6 R6 b _ r6
            rw [show (st.change (more ++ ·)).l.length = 0 by show (chL _ st.l).length = 0; rw [Hl.out]; rfl] at hlen
            have Hlen := Lib.hid hlen
            clear hb6 r6 hlen cd Hal5
            go_wp2_with fail
            refine Hlen.out.mono ?_
            rintro e w7 ⟨rfl, rfl⟩
            have HB7 : Hid (Below w.heap.size w w6) := Lib.hid (HB0.out.trans (Hp6.out.bel.mono HB0.out.size))
            go_wp2
            go_ret
            exact ⟨rfl, HB7.out⟩
          | cons x tl =>
            have hch : st.change (more ++ ·) = ⟨st.lim, (more ++ x) :: tl, 0⟩ := by unfold RS.change; rw [hl]; rfl
            have Hxs := Lib.hid (Hsm.out x (by rw [hl]; simp))
            have hn1 : st.l.length = tl.length + 1 := by rw [hl]; rfl
            rw [show decide (0 < st.l.length) = true from decide_eq_true (by omega)] at Hch
            have Hch1 := Lib.hid hch
            have Hn1 := Lib.hid hn1
            have Hl := Lib.hid hl
            have hne0 : ((st.l.length : Int) == 0) = false := beq_eq_false_iff_ne.2 (by omega)
            have hpos : (0 : Int) < (st.l.length : Int) := by omega
            have hposN : 0 < st.l.length := by omega
            have hn1' : (1 : Int) ≤ (st.l.length : Int) := by omega
            have hxs := Hxs.out
            clear hl hch hn1
            go_wp2_with fail
            refine Hch.out.mono ?_
            rintro e w5 ⟨rfl, hp5⟩
            obtain ⟨g, o, rfl, hg, hc⟩ := hp5.doc.rd.at_ (by omega)
            have hx5 := hc 0 x (by rw [Hl.out]; rfl)
            rw [Nat.add_zero] at hx5
            have hgn : g ≠ w3.heap.size := by
              obtain ⟨_, _, _, _, hq, _⟩ := hp5
              exact (hq _ rfl).2.1
            have Hgn := Lib.hid (show w3.heap.size ≠ g from fun e => hgn e.symm)
            have cm5 := Cx1.out w5 hp5.bel
            have hz5 := hp5.bel.size
            have hz35 := hp5.box.lt
            have hz03 : w0.heap.size ≤ w3.heap.size := by
              obtain ⟨_, _, _, _, _, _, _, hq⟩ := hp5
              exact hq
            have cd := hp5.box.c1
            have hcap := hp5.doc.cap
            have hcm := hp5.doc.max
            have hxb : (w5.alloc (.cells #[.string (more ++ x)] 9)).cell? ⟨g, o, none⟩ = some (.string x) := by rw [World.cell?_alloc_some _ _ _ (by rw [hx5]; rfl)]; exact hx5
            have hmb : (w5.alloc (.cells #[.string (more ++ x)] 9)).cell? ⟨w.heap.size, 0, none⟩ = some (.string more) := by rw [World.cell?_alloc_some _ _ _ (by rw [cm5]; rfl)]; exact cm5
            have hdb : (w5.alloc (.cells #[.string (more ++ x)] 9)).cell? ⟨w3.heap.size, 1, none⟩ = some (.slice (some ⟨g, o, none⟩) st.l.length c1) := by rw [World.cell?_alloc_some _ _ _ (by rw [cd]; rfl)]; exact cd
            have rtl : ∀ A2 : Option Addr, (c1 ≠ 1 → A2 = some ⟨g, o + 1, none⟩) → RdV Value.string w5 A2 tl := fun A2 hA2 hn => by
              have h1 := hp5.doc.rd.tail
              rw [Hl.out] at h1
              have := Hn1.out
              rw [hA2 (by omega)]
              exact h1 hn
            have happ : ∀ A2 : Option Addr, (c1 ≠ 1 → A2 = some ⟨g, o + 1, none⟩) → A2 ≠ none → _ := fun A2 hA2 hne => run_app1 w5.drew A2 (st.l.length - 1) (c1 - 1) (more ++ x) tl (by have := Hn1.out; omega) (rtl A2 hA2).drew (fun e => absurd e hne) (by have := Hn1.out; omega)
            have Happ := Lib.hid happ
            have Hp5 := Lib.hid hp5
            clear hp5 hc happ rtl Hch
            have h1c : 1 ≤ c1 := by omega
            go_wp2_with fail
            have hch := Hch1.out
            by_cases hc1 : c1 = 1
            · subst hc1
              obtain ⟨A', c', w6, hrun, hB6, hrd6, hc6, hm6, hn6, hfr⟩ := Happ.out (some ⟨g, o, none⟩) (fun e => absurd rfl e) (fun e => by cases e)
              obtain ⟨mm, hmm0⟩ : ∃ mm, 1 + (st.l.length - 1) = mm := ⟨_, rfl⟩
              have hmm : mm = tl.length + 1 := by have := Hn1.out; omega
              rw [hmm0] at hrun hc6
              have ez : st.l.length - 1 = 0 := by omega
              rw [ez, show 1 - 1 = 0 from rfl] at hrun
              rw [show w5.drew.heap.size = w5.heap.size from rfl] at hrun
              have Hrun := Lib.hid hrun
              have hB6 : Below w5.heap.size w5 w6 := ⟨hB6.os, hB6.tape, hB6.output, hB6.size, hB6.block⟩
              have hfr : ∀ a, A' = some a → w5.heap.size ≤ a.block ∧ a.block < w6.heap.size := hfr
              have hx6 : w6.cell? ⟨g, o, none⟩ = some (.string x) := (hB6.cell (p := ⟨g, o, none⟩) hg).trans hx5
              have cm6 : w6.cell? ⟨w.heap.size, 0, none⟩ = some (.string more) := (hB6.cell (p := ⟨w.heap.size, 0, none⟩) (by show w.heap.size < w5.heap.size; omega)).trans cm5
              have hx7 : (w6.setCell ⟨w3.heap.size, 1, none⟩ (.slice A' mm c')).cell? ⟨g, o, none⟩ = some (.string x) := by rw [World.cell?_setCell_far _ _ _ _ (by simpa using Hgn.out)]; exact hx6
              have cm7 : (w6.setCell ⟨w3.heap.size, 1, none⟩ (.slice A' mm c')).cell? ⟨w.heap.size, 0, none⟩ = some (.string more) := by rw [World.cell?_setCell_far _ _ _ _ (by simp; omega)]; exact cm6
              have hd6 : DocAt w6 A' c' (st.change (more ++ ·)) := ⟨by rw [hch]; exact hrd6, by rw [hch]; show ((more ++ x) :: tl).length ≤ c'; rw [List.length_cons, ← hmm]; exact hc6, hm6, hn6⟩
              have hp6 := Hp5.out.redoc hB6 hd6 hfr
              have hp7 := hp6.set 1 (.slice A' mm c') (hp6.box.set1 _)
              have hp8 := hp7.set 2 (.int .i64 0) (hp7.box.set2 _)
              have e0 := hp6.box.c0
              have e1 := hp6.box.c1
              have e2 := hp6.box.c2
              have f1 := hp6.box.f1
              have f2 := hp6.box.f2
              have Hp8 : Hid (PairAt w0 ((w6.setCell ⟨w3.heap.size, 1, none⟩ (.slice A' mm c')).setCell ⟨w3.heap.size, 2, none⟩ (.int .i64 0)) w3.heap.size b A' c' (st.change (more ++ ·))) := Lib.hid (by
                have := hp8
                rw [hmm, show tl.length + 1 = (st.change (more ++ ·)).l.length by rw [hch]; rfl] at this ⊢
                exact this)
              have Hal7 := Lib.hid (ralive_calls ((w6.setCell ⟨w3.heap.size, 1, none⟩ (.slice A' mm c')).setCell ⟨w3.heap.size, 2, none⟩ (.int .i64 0)))
              clear hrun hB6 hfr hd6 hp6 hp7 hp8 hrd6 hmm
              clear ez hmm0 hch
              refine wp_region_held_drew (S := (fun w' => w'.cell? ⟨g, o, none⟩ = some (.string x) ∧ w'.cell? ⟨w.heap.size, 0, none⟩ = some (.string more))) (by kernel_rfl) ⟨hx5, cm5⟩ (fun hHeld => ?_)
              refine wpAnyH_take (i := 0) (oi := ⟨some 59, _, _, _, _, _⟩) (v := ?_) rfl (by kernel_rfl) (by kernel_rfl) (by kernel_rfl) (fun _ _ _ h => h) (Or.inl ⟨by kernel_rfl, ?hy0⟩) (by assumption) ?_
              case hy0 => (intro w' hSw; (try dsimp only at hSw); go_simp; try with_reducible rfl)
              simp only [Act.put, List.setIfInBounds_toArray, List.set_cons_zero, List.set_cons_succ]
              refine wpAnyH_take (i := 1) (oi := ⟨some 60, _, _, _, _, _⟩) (v := ?_) rfl (by kernel_rfl) (by kernel_rfl) (by kernel_rfl) (fun _ _ _ h => h) (Or.inl ⟨by kernel_rfl, ?hy1⟩) (by assumption) ?_
              case hy1 => (intro w' hSw; (try dsimp only at hSw); go_simp; try with_reducible rfl)
              simp only [Act.put, List.setIfInBounds_toArray, List.set_cons_zero, List.set_cons_succ]
              refine wpAnyH_take (i := 7) (oi := ⟨some 66, _, _, _, _, _⟩) (v := ?_) rfl (by kernel_rfl) (by kernel_rfl) (by kernel_rfl) (fun _ _ _ h => h) (Or.inl ⟨by kernel_rfl, ?hy7⟩) (by assumption) ?_
              case hy7 => (intro w' hSw; (try dsimp only at hSw); go_simp; try with_reducible rfl)
              simp only [Act.put, List.setIfInBounds_toArray, List.set_cons_zero, List.set_cons_succ]
              refine wpAnyH_ready (rs := [2, 8]) (by kernel_rfl) (by simp) ?_
              refine AllReadyH.cons (o := ⟨some 61, _, _, _, _, _⟩) rfl (fun K hK => ?_) (AllReadyH.cons (o := ⟨some 67, _, _, _, _, _⟩) rfl (fun K hK => ?_) AllReadyH.nil)
              · (rw [if_pos (by kernel_rfl)])
                go_simp
                refine hK.out _ _ ⟨hx5, cm5⟩ (fun hHeld => ?_)
                clear hK K
                refine wpAnyH_take (i := 3) (oi := ⟨some 62, _, _, _, _, _⟩) (v := ?_) rfl (by kernel_rfl) (by kernel_rfl) (by kernel_rfl) (fun _ _ _ h => h) (Or.inl ⟨by kernel_rfl, ?hy3⟩) (by assumption) ?_
                case hy3 => (intro w' hSw; (try dsimp only at hSw); go_simp; try with_reducible rfl)
                simp only [Act.put, List.setIfInBounds_toArray, List.set_cons_zero, List.set_cons_succ]
                refine wpAnyH_take (i := 4) (oi := ⟨some 63, _, _, _, _, _⟩) (v := ?_) rfl (by kernel_rfl) (by kernel_rfl) (by kernel_rfl) (fun _ _ _ h => h) (Or.inl ⟨by kernel_rfl, ?hy4⟩) (by assumption) ?_
                case hy4 => (intro w' hSw; (try dsimp only at hSw); go_simp; try with_reducible rfl)
                simp only [Act.put, List.setIfInBounds_toArray, List.set_cons_zero, List.set_cons_succ]
                refine wpAnyH_take (i := 5) (oi := ⟨some 64, _, _, _, _, _⟩) (v := ?_) rfl (by kernel_rfl) (by kernel_rfl) (by kernel_rfl) (fun _ _ _ h => h) (Or.inl ⟨by kernel_rfl, ?hy5⟩) (by assumption) ?_
                case hy5 => (intro w' hSw; (try dsimp only at hSw); go_simp; try with_reducible rfl)
                simp only [Act.put, List.setIfInBounds_toArray, List.set_cons_zero, List.set_cons_succ]
                refine wpAnyH_ready (rs := [6, 8]) (by kernel_rfl) (by simp) ?_
                refine AllReadyH.cons (o := ⟨some 65, _, _, _, _, _⟩) rfl (fun K hK => ?_) (AllReadyH.cons (o := ⟨some 67, _, _, _, _, _⟩) rfl (fun K hK => ?_) AllReadyH.nil)
                · (rw [if_pos (by kernel_rfl)])
                  go_simp
                  refine hK.out _ _ ⟨hxb, hmb⟩ (fun hHeld => ?_)
                  clear hK K
                  refine wpAnyH_ready (rs := [8]) (by kernel_rfl) (by simp) ?_
                  refine AllReadyH.cons (o := ⟨some 67, _, _, _, _, _⟩) rfl (fun K hK => ?_) AllReadyH.nil
                  (rw [if_pos (by kernel_rfl)])
                  go_simp
                  refine hK.out _ _ ⟨hxb, hmb⟩ (fun hHeld => ?_)
                  clear hK K
                  refine wpAnyH_take (i := 9) (oi := ⟨some 68, _, _, _, _, _⟩) (v := ?_) rfl (by kernel_rfl) (by kernel_rfl) (by kernel_rfl) (fun _ _ _ h => h) (Or.inl ⟨by kernel_rfl, ?hy9⟩) (by assumption) ?_
                  case hy9 => (intro w' hSw; (try dsimp only at hSw); go_simp; try with_reducible rfl)
                  simp only [Act.put, List.setIfInBounds_toArray, List.set_cons_zero, List.set_cons_succ]
                  refine wpAnyH_ready (rs := [10]) (by kernel_rfl) (by simp) ?_
                  refine AllReadyH.cons (o := ⟨some 69, _, _, _, _, _⟩) rfl (fun K hK => ?_) AllReadyH.nil
                  refine step_append_g (by kernel_rfl) (.tmp 65) (.tmp 68) 27 rfl _ _ rfl rfl Hrun.out ?_
                  refine hK.out _ _ ⟨hx6, cm6⟩ (fun hHeld => ?_)
                  clear hK K
                  refine wpAnyH_take (i := 11) (oi := ⟨some 70, _, _, _, _, _⟩) (v := ?_) rfl (by kernel_rfl) (by kernel_rfl) (by kernel_rfl) (fun _ _ _ h => h) (Or.inl ⟨by kernel_rfl, ?hy11⟩) (by assumption) ?_
                  case hy11 => (intro w' hSw; (try dsimp only at hSw); go_simp; try with_reducible rfl)
                  simp only [Act.put, List.setIfInBounds_toArray, List.set_cons_zero, List.set_cons_succ]
                  refine wpAnyH_ready (rs := [12]) (by kernel_rfl) (by simp) ?_
                  refine AllReadyH.cons (o := ⟨none, _, _, _, _, _⟩) rfl (fun K hK => ?_) AllReadyH.nil
                  (rw [if_pos (by kernel_rfl)])
                  go_simp
                  refine hK.out _ _ ⟨hx7, cm7⟩ (fun hHeld => ?_)
                  clear hK K
                  refine wpAnyH_done (by kernel_rfl) ?_ _
                  go_wp2_with fail
                  refine Hal7.out.mono ?_
                  rintro e w9 ⟨rfl, hb9⟩
                  have Hp9 := Lib.hid (Hp8.out.below hb9)
                  have Hs9 := Lib.hid Hp9.out.stands
                  have d0 := Hp9.out.box.c0
                  have d1 := Hp9.out.box.c1
                  have d2 := Hp9.out.box.c2
                  clear hb9 hHeld Hal7
                  go_wp2_with fail
                  refine Hs9.out.mono ?_
                  rintro e w10 ⟨rfl, hb10⟩
                  have HB10 : Hid (Below w.heap.size w w10) := Lib.hid (HB0.out.trans ((Hp9.out.below hb10).bel.mono HB0.out.size))
                  clear hb10 d0 d1 d2
                  go_wp2
                  go_ret
                  exact ⟨rfl, HB10.out⟩
                · (rw [if_pos (by kernel_rfl)])
                  go_simp
                  refine hK.out _ _ ⟨hx5, cm5⟩ (fun hHeld => ?_)
                  clear hK K
                  refine wpAnyH_take (i := 9) (oi := ⟨some 68, _, _, _, _, _⟩) (v := ?_) rfl (by kernel_rfl) (by kernel_rfl) (by kernel_rfl) (fun _ _ _ h => h) (Or.inl ⟨by kernel_rfl, ?hy9⟩) (by assumption) ?_
                  case hy9 => (intro w' hSw; (try dsimp only at hSw); go_simp; try with_reducible rfl)
                  simp only [Act.put, List.setIfInBounds_toArray, List.set_cons_zero, List.set_cons_succ]
                  refine wpAnyH_ready (rs := [6]) (by kernel_rfl) (by simp) ?_
                  refine AllReadyH.cons (o := ⟨some 65, _, _, _, _, _⟩) rfl (fun K hK => ?_) AllReadyH.nil
                  (rw [if_pos (by kernel_rfl)])
                  go_simp
                  refine hK.out _ _ ⟨hxb, hmb⟩ (fun hHeld => ?_)
                  clear hK K
                  refine wpAnyH_ready (rs := [10]) (by kernel_rfl) (by simp) ?_
                  refine AllReadyH.cons (o := ⟨some 69, _, _, _, _, _⟩) rfl (fun K hK => ?_) AllReadyH.nil
                  refine step_append_g (by kernel_rfl) (.tmp 65) (.tmp 68) 27 rfl _ _ rfl rfl Hrun.out ?_
                  refine hK.out _ _ ⟨hx6, cm6⟩ (fun hHeld => ?_)
                  clear hK K
                  refine wpAnyH_take (i := 11) (oi := ⟨some 70, _, _, _, _, _⟩) (v := ?_) rfl (by kernel_rfl) (by kernel_rfl) (by kernel_rfl) (fun _ _ _ h => h) (Or.inl ⟨by kernel_rfl, ?hy11⟩) (by assumption) ?_
                  case hy11 => (intro w' hSw; (try dsimp only at hSw); go_simp; try with_reducible rfl)
                  simp only [Act.put, List.setIfInBounds_toArray, List.set_cons_zero, List.set_cons_succ]
                  refine wpAnyH_ready (rs := [12]) (by kernel_rfl) (by simp) ?_
                  refine AllReadyH.cons (o := ⟨none, _, _, _, _, _⟩) rfl (fun K hK => ?_) AllReadyH.nil
                  (rw [if_pos (by kernel_rfl)])
                  go_simp
                  refine hK.out _ _ ⟨hx7, cm7⟩ (fun hHeld => ?_)
                  clear hK K
                  refine wpAnyH_done (by kernel_rfl) ?_ _
                  go_wp2_with fail
                  refine Hal7.out.mono ?_
                  rintro e w9 ⟨rfl, hb9⟩
                  have Hp9 := Lib.hid (Hp8.out.below hb9)
                  have Hs9 := Lib.hid Hp9.out.stands
                  have d0 := Hp9.out.box.c0
                  have d1 := Hp9.out.box.c1
                  have d2 := Hp9.out.box.c2
                  clear hb9 hHeld Hal7
                  go_wp2_with fail
                  refine Hs9.out.mono ?_
                  rintro e w10 ⟨rfl, hb10⟩
                  have HB10 : Hid (Below w.heap.size w w10) := Lib.hid (HB0.out.trans ((Hp9.out.below hb10).bel.mono HB0.out.size))
                  clear hb10 d0 d1 d2
                  go_wp2
                  go_ret
                  exact ⟨rfl, HB10.out⟩
              · (rw [if_pos (by kernel_rfl)])
                go_simp
                refine hK.out _ _ ⟨hx5, cm5⟩ (fun hHeld => ?_)
                clear hK K
                refine wpAnyH_take (i := 9) (oi := ⟨some 68, _, _, _, _, _⟩) (v := ?_) rfl (by kernel_rfl) (by kernel_rfl) (by kernel_rfl) (fun _ _ _ h => h) (Or.inl ⟨by kernel_rfl, ?hy9⟩) (by assumption) ?_
                case hy9 => (intro w' hSw; (try dsimp only at hSw); go_simp; try with_reducible rfl)
                simp only [Act.put, List.setIfInBounds_toArray, List.set_cons_zero, List.set_cons_succ]
                refine wpAnyH_ready (rs := [2]) (by kernel_rfl) (by simp) ?_
                refine AllReadyH.cons (o := ⟨some 61, _, _, _, _, _⟩) rfl (fun K hK => ?_) AllReadyH.nil
                (rw [if_pos (by kernel_rfl)])
                go_simp
                refine hK.out _ _ ⟨hx5, cm5⟩ (fun hHeld => ?_)
                clear hK K
                refine wpAnyH_take (i := 3) (oi := ⟨some 62, _, _, _, _, _⟩) (v := ?_) rfl (by kernel_rfl) (by kernel_rfl) (by kernel_rfl) (fun _ _ _ h => h) (Or.inl ⟨by kernel_rfl, ?hy3⟩) (by assumption) ?_
                case hy3 => (intro w' hSw; (try dsimp only at hSw); go_simp; try with_reducible rfl)
                simp only [Act.put, List.setIfInBounds_toArray, List.set_cons_zero, List.set_cons_succ]
                refine wpAnyH_take (i := 4) (oi := ⟨some 63, _, _, _, _, _⟩) (v := ?_) rfl (by kernel_rfl) (by kernel_rfl) (by kernel_rfl) (fun _ _ _ h => h) (Or.inl ⟨by kernel_rfl, ?hy4⟩) (by assumption) ?_
                case hy4 => (intro w' hSw; (try dsimp only at hSw); go_simp; try with_reducible rfl)
                simp only [Act.put, List.setIfInBounds_toArray, List.set_cons_zero, List.set_cons_succ]
                refine wpAnyH_take (i := 5) (oi := ⟨some 64, _, _, _, _, _⟩) (v := ?_) rfl (by kernel_rfl) (by kernel_rfl) (by kernel_rfl) (fun _ _ _ h => h) (Or.inl ⟨by kernel_rfl, ?hy5⟩) (by assumption) ?_
                case hy5 => (intro w' hSw; (try dsimp only at hSw); go_simp; try with_reducible rfl)
                simp only [Act.put, List.setIfInBounds_toArray, List.set_cons_zero, List.set_cons_succ]
                refine wpAnyH_ready (rs := [6]) (by kernel_rfl) (by simp) ?_
                refine AllReadyH.cons (o := ⟨some 65, _, _, _, _, _⟩) rfl (fun K hK => ?_) AllReadyH.nil
                (rw [if_pos (by kernel_rfl)])
                go_simp
                refine hK.out _ _ ⟨hxb, hmb⟩ (fun hHeld => ?_)
                clear hK K
                refine wpAnyH_ready (rs := [10]) (by kernel_rfl) (by simp) ?_
                refine AllReadyH.cons (o := ⟨some 69, _, _, _, _, _⟩) rfl (fun K hK => ?_) AllReadyH.nil
                refine step_append_g (by kernel_rfl) (.tmp 65) (.tmp 68) 27 rfl _ _ rfl rfl Hrun.out ?_
                refine hK.out _ _ ⟨hx6, cm6⟩ (fun hHeld => ?_)
                clear hK K
                refine wpAnyH_take (i := 11) (oi := ⟨some 70, _, _, _, _, _⟩) (v := ?_) rfl (by kernel_rfl) (by kernel_rfl) (by kernel_rfl) (fun _ _ _ h => h) (Or.inl ⟨by kernel_rfl, ?hy11⟩) (by assumption) ?_
                case hy11 => (intro w' hSw; (try dsimp only at hSw); go_simp; try with_reducible rfl)
                simp only [Act.put, List.setIfInBounds_toArray, List.set_cons_zero, List.set_cons_succ]
                refine wpAnyH_ready (rs := [12]) (by kernel_rfl) (by simp) ?_
                refine AllReadyH.cons (o := ⟨none, _, _, _, _, _⟩) rfl (fun K hK => ?_) AllReadyH.nil
                (rw [if_pos (by kernel_rfl)])
                go_simp
                refine hK.out _ _ ⟨hx7, cm7⟩ (fun hHeld => ?_)
                clear hK K
                refine wpAnyH_done (by kernel_rfl) ?_ _
                go_wp2_with fail
                refine Hal7.out.mono ?_
                rintro e w9 ⟨rfl, hb9⟩
                have Hp9 := Lib.hid (Hp8.out.below hb9)
                have Hs9 := Lib.hid Hp9.out.stands
                have d0 := Hp9.out.box.c0
                have d1 := Hp9.out.box.c1
                have d2 := Hp9.out.box.c2
                clear hb9 hHeld Hal7
                go_wp2_with fail
                refine Hs9.out.mono ?_
                rintro e w10 ⟨rfl, hb10⟩
                have HB10 : Hid (Below w.heap.size w w10) := Lib.hid (HB0.out.trans ((Hp9.out.below hb10).bel.mono HB0.out.size))
                clear hb10 d0 d1 d2
                go_wp2
                go_ret
                exact ⟨rfl, HB10.out⟩
            · obtain ⟨A', c', w6, hrun, hB6, hrd6, hc6, hm6, hn6, hfr⟩ := Happ.out (some ⟨g, o + 1, none⟩) (fun _ => rfl) (fun e => by cases e)
              obtain ⟨mm, hmm0⟩ : ∃ mm, 1 + (st.l.length - 1) = mm := ⟨_, rfl⟩
              have hmm : mm = tl.length + 1 := by have := Hn1.out; omega
              rw [hmm0] at hrun hc6
              rw [show w5.drew.heap.size = w5.heap.size from rfl] at hrun
              have Hrun := Lib.hid hrun
              have hB6 : Below w5.heap.size w5 w6 := ⟨hB6.os, hB6.tape, hB6.output, hB6.size, hB6.block⟩
              have hfr : ∀ a, A' = some a → w5.heap.size ≤ a.block ∧ a.block < w6.heap.size := hfr
              have hx6 : w6.cell? ⟨g, o, none⟩ = some (.string x) := (hB6.cell (p := ⟨g, o, none⟩) hg).trans hx5
              have cm6 : w6.cell? ⟨w.heap.size, 0, none⟩ = some (.string more) := (hB6.cell (p := ⟨w.heap.size, 0, none⟩) (by show w.heap.size < w5.heap.size; omega)).trans cm5
              have hx7 : (w6.setCell ⟨w3.heap.size, 1, none⟩ (.slice A' mm c')).cell? ⟨g, o, none⟩ = some (.string x) := by rw [World.cell?_setCell_far _ _ _ _ (by simpa using Hgn.out)]; exact hx6
              have cm7 : (w6.setCell ⟨w3.heap.size, 1, none⟩ (.slice A' mm c')).cell? ⟨w.heap.size, 0, none⟩ = some (.string more) := by rw [World.cell?_setCell_far _ _ _ _ (by simp; omega)]; exact cm6
              have hd6 : DocAt w6 A' c' (st.change (more ++ ·)) := ⟨by rw [hch]; exact hrd6, by rw [hch]; show ((more ++ x) :: tl).length ≤ c'; rw [List.length_cons, ← hmm]; exact hc6, hm6, hn6⟩
              have hp6 := Hp5.out.redoc hB6 hd6 hfr
              have hp7 := hp6.set 1 (.slice A' mm c') (hp6.box.set1 _)
              have hp8 := hp7.set 2 (.int .i64 0) (hp7.box.set2 _)
              have e0 := hp6.box.c0
              have e1 := hp6.box.c1
              have e2 := hp6.box.c2
              have f1 := hp6.box.f1
              have f2 := hp6.box.f2
              have Hp8 : Hid (PairAt w0 ((w6.setCell ⟨w3.heap.size, 1, none⟩ (.slice A' mm c')).setCell ⟨w3.heap.size, 2, none⟩ (.int .i64 0)) w3.heap.size b A' c' (st.change (more ++ ·))) := Lib.hid (by
                have := hp8
                rw [hmm, show tl.length + 1 = (st.change (more ++ ·)).l.length by rw [hch]; rfl] at this ⊢
                exact this)
              have Hal7 := Lib.hid (ralive_calls ((w6.setCell ⟨w3.heap.size, 1, none⟩ (.slice A' mm c')).setCell ⟨w3.heap.size, 2, none⟩ (.int .i64 0)))
              clear hrun hB6 hfr hd6 hp6 hp7 hp8 hrd6 hmm
              clear hmm0 hch
              refine wp_region_held_drew (S := (fun w' => w'.cell? ⟨g, o, none⟩ = some (.string x) ∧ w'.cell? ⟨w.heap.size, 0, none⟩ = some (.string more))) (by kernel_rfl) ⟨hx5, cm5⟩ (fun hHeld => ?_)
              refine wpAnyH_take (i := 0) (oi := ⟨some 59, _, _, _, _, _⟩) (v := ?_) rfl (by kernel_rfl) (by kernel_rfl) (by kernel_rfl) (fun _ _ _ h => h) (Or.inl ⟨by kernel_rfl, ?hy0⟩) (by assumption) ?_
              case hy0 => (intro w' hSw; (try dsimp only at hSw); go_simp; try with_reducible rfl)
              simp only [Act.put, List.setIfInBounds_toArray, List.set_cons_zero, List.set_cons_succ]
              refine wpAnyH_take (i := 1) (oi := ⟨some 60, _, _, _, _, _⟩) (v := ?_) rfl (by kernel_rfl) (by kernel_rfl) (by kernel_rfl) (fun _ _ _ h => h) (Or.inl ⟨by kernel_rfl, ?hy1⟩) (by assumption) ?_
              case hy1 => (intro w' hSw; (try dsimp only at hSw); go_simp; try with_reducible rfl)
              simp only [Act.put, List.setIfInBounds_toArray, List.set_cons_zero, List.set_cons_succ]
              refine wpAnyH_take (i := 7) (oi := ⟨some 66, _, _, _, _, _⟩) (v := ?_) rfl (by kernel_rfl) (by kernel_rfl) (by kernel_rfl) (fun _ _ _ h => h) (Or.inl ⟨by kernel_rfl, ?hy7⟩) (by assumption) ?_
              case hy7 => (intro w' hSw; (try dsimp only at hSw); go_simp; try with_reducible rfl)
              simp only [Act.put, List.setIfInBounds_toArray, List.set_cons_zero, List.set_cons_succ]
              refine wpAnyH_ready (rs := [2, 8]) (by kernel_rfl) (by simp) ?_
              refine AllReadyH.cons (o := ⟨some 61, _, _, _, _, _⟩) rfl (fun K hK => ?_) (AllReadyH.cons (o := ⟨some 67, _, _, _, _, _⟩) rfl (fun K hK => ?_) AllReadyH.nil)
              · (rw [if_pos (by kernel_rfl)])
                go_simp
                refine hK.out _ _ ⟨hx5, cm5⟩ (fun hHeld => ?_)
                clear hK K
                refine wpAnyH_take (i := 3) (oi := ⟨some 62, _, _, _, _, _⟩) (v := ?_) rfl (by kernel_rfl) (by kernel_rfl) (by kernel_rfl) (fun _ _ _ h => h) (Or.inl ⟨by kernel_rfl, ?hy3⟩) (by assumption) ?_
                case hy3 => (intro w' hSw; (try dsimp only at hSw); go_simp; try with_reducible rfl)
                simp only [Act.put, List.setIfInBounds_toArray, List.set_cons_zero, List.set_cons_succ]
                refine wpAnyH_take (i := 4) (oi := ⟨some 63, _, _, _, _, _⟩) (v := ?_) rfl (by kernel_rfl) (by kernel_rfl) (by kernel_rfl) (fun _ _ _ h => h) (Or.inl ⟨by kernel_rfl, ?hy4⟩) (by assumption) ?_
                case hy4 => (intro w' hSw; (try dsimp only at hSw); go_simp; try with_reducible rfl)
                simp only [Act.put, List.setIfInBounds_toArray, List.set_cons_zero, List.set_cons_succ]
                refine wpAnyH_take (i := 5) (oi := ⟨some 64, _, _, _, _, _⟩) (v := ?_) rfl (by kernel_rfl) (by kernel_rfl) (by kernel_rfl) (fun _ _ _ h => h) (Or.inl ⟨by kernel_rfl, ?hy5⟩) (by assumption) ?_
                case hy5 => (intro w' hSw; (try dsimp only at hSw); go_simp; try with_reducible rfl)
                simp only [Act.put, List.setIfInBounds_toArray, List.set_cons_zero, List.set_cons_succ]
                refine wpAnyH_ready (rs := [6, 8]) (by kernel_rfl) (by simp) ?_
                refine AllReadyH.cons (o := ⟨some 65, _, _, _, _, _⟩) rfl (fun K hK => ?_) (AllReadyH.cons (o := ⟨some 67, _, _, _, _, _⟩) rfl (fun K hK => ?_) AllReadyH.nil)
                · (rw [if_pos (by kernel_rfl)])
                  go_simp
                  refine hK.out _ _ ⟨hxb, hmb⟩ (fun hHeld => ?_)
                  clear hK K
                  refine wpAnyH_ready (rs := [8]) (by kernel_rfl) (by simp) ?_
                  refine AllReadyH.cons (o := ⟨some 67, _, _, _, _, _⟩) rfl (fun K hK => ?_) AllReadyH.nil
                  (rw [if_pos (by kernel_rfl)])
                  go_simp
                  refine hK.out _ _ ⟨hxb, hmb⟩ (fun hHeld => ?_)
                  clear hK K
                  refine wpAnyH_take (i := 9) (oi := ⟨some 68, _, _, _, _, _⟩) (v := ?_) rfl (by kernel_rfl) (by kernel_rfl) (by kernel_rfl) (fun _ _ _ h => h) (Or.inl ⟨by kernel_rfl, ?hy9⟩) (by assumption) ?_
                  case hy9 => (intro w' hSw; (try dsimp only at hSw); go_simp; try with_reducible rfl)
                  simp only [Act.put, List.setIfInBounds_toArray, List.set_cons_zero, List.set_cons_succ]
                  refine wpAnyH_ready (rs := [10]) (by kernel_rfl) (by simp) ?_
                  refine AllReadyH.cons (o := ⟨some 69, _, _, _, _, _⟩) rfl (fun K hK => ?_) AllReadyH.nil
                  refine step_append_g (by kernel_rfl) (.tmp 65) (.tmp 68) 27 rfl _ _ rfl rfl Hrun.out ?_
                  refine hK.out _ _ ⟨hx6, cm6⟩ (fun hHeld => ?_)
                  clear hK K
                  refine wpAnyH_take (i := 11) (oi := ⟨some 70, _, _, _, _, _⟩) (v := ?_) rfl (by kernel_rfl) (by kernel_rfl) (by kernel_rfl) (fun _ _ _ h => h) (Or.inl ⟨by kernel_rfl, ?hy11⟩) (by assumption) ?_
                  case hy11 => (intro w' hSw; (try dsimp only at hSw); go_simp; try with_reducible rfl)
                  simp only [Act.put, List.setIfInBounds_toArray, List.set_cons_zero, List.set_cons_succ]
                  refine wpAnyH_ready (rs := [12]) (by kernel_rfl) (by simp) ?_
                  refine AllReadyH.cons (o := ⟨none, _, _, _, _, _⟩) rfl (fun K hK => ?_) AllReadyH.nil
                  (rw [if_pos (by kernel_rfl)])
                  go_simp
                  refine hK.out _ _ ⟨hx7, cm7⟩ (fun hHeld => ?_)
                  clear hK K
                  refine wpAnyH_done (by kernel_rfl) ?_ _
                  go_wp2_with fail
                  refine Hal7.out.mono ?_
                  rintro e w9 ⟨rfl, hb9⟩
                  have Hp9 := Lib.hid (Hp8.out.below hb9)
                  have Hs9 := Lib.hid Hp9.out.stands
                  have d0 := Hp9.out.box.c0
                  have d1 := Hp9.out.box.c1
                  have d2 := Hp9.out.box.c2
                  clear hb9 hHeld Hal7
                  go_wp2_with fail
                  refine Hs9.out.mono ?_
                  rintro e w10 ⟨rfl, hb10⟩
                  have HB10 : Hid (Below w.heap.size w w10) := Lib.hid (HB0.out.trans ((Hp9.out.below hb10).bel.mono HB0.out.size))
                  clear hb10 d0 d1 d2
                  go_wp2
                  go_ret
                  exact ⟨rfl, HB10.out⟩
                · (rw [if_pos (by kernel_rfl)])
                  go_simp
                  refine hK.out _ _ ⟨hx5, cm5⟩ (fun hHeld => ?_)
                  clear hK K
                  refine wpAnyH_take (i := 9) (oi := ⟨some 68, _, _, _, _, _⟩) (v := ?_) rfl (by kernel_rfl) (by kernel_rfl) (by kernel_rfl) (fun _ _ _ h => h) (Or.inl ⟨by kernel_rfl, ?hy9⟩) (by assumption) ?_
                  case hy9 => (intro w' hSw; (try dsimp only at hSw); go_simp; try with_reducible rfl)
                  simp only [Act.put, List.setIfInBounds_toArray, List.set_cons_zero, List.set_cons_succ]
                  refine wpAnyH_ready (rs := [6]) (by kernel_rfl) (by simp) ?_
                  refine AllReadyH.cons (o := ⟨some 65, _, _, _, _, _⟩) rfl (fun K hK => ?_) AllReadyH.nil
                  (rw [if_pos (by kernel_rfl)])
                  go_simp
                  refine hK.out _ _ ⟨hxb, hmb⟩ (fun hHeld => ?_)
                  clear hK K
                  refine wpAnyH_ready (rs := [10]) (by kernel_rfl) (by simp) ?_
                  refine AllReadyH.cons (o := ⟨some 69, _, _, _, _, _⟩) rfl (fun K hK => ?_) AllReadyH.nil
                  refine step_append_g (by kernel_rfl) (.tmp 65) (.tmp 68) 27 rfl _ _ rfl rfl Hrun.out ?_
                  refine hK.out _ _ ⟨hx6, cm6⟩ (fun hHeld => ?_)
                  clear hK K
                  refine wpAnyH_take (i := 11) (oi := ⟨some 70, _, _, _, _, _⟩) (v := ?_) rfl (by kernel_rfl) (by kernel_rfl) (by kernel_rfl) (fun _ _ _ h => h) (Or.inl ⟨by kernel_rfl, ?hy11⟩) (by assumption) ?_
                  case hy11 => (intro w' hSw; (try dsimp only at hSw); go_simp; try with_reducible rfl)
                  simp only [Act.put, List.setIfInBounds_toArray, List.set_cons_zero, List.set_cons_succ]
                  refine wpAnyH_ready (rs := [12]) (by kernel_rfl) (by simp) ?_
                  refine AllReadyH.cons (o := ⟨none, _, _, _, _, _⟩) rfl (fun K hK => ?_) AllReadyH.nil
                  (rw [if_pos (by kernel_rfl)])
                  go_simp
                  refine hK.out _ _ ⟨hx7, cm7⟩ (fun hHeld => ?_)
                  clear hK K
                  refine wpAnyH_done (by kernel_rfl) ?_ _
                  go_wp2_with fail
                  refine Hal7.out.mono ?_
                  rintro e w9 ⟨rfl, hb9⟩
                  have Hp9 := Lib.hid (Hp8.out.below hb9)
                  have Hs9 := Lib.hid Hp9.out.stands
                  have d0 := Hp9.out.box.c0
                  have d1 := Hp9.out.box.c1
                  have d2 := Hp9.out.box.c2
                  clear hb9 hHeld Hal7
                  go_wp2_with fail
                  refine Hs9.out.mono ?_
                  rintro e w10 ⟨rfl, hb10⟩
                  have HB10 : Hid (Below w.heap.size w w10) := Lib.hid (HB0.out.trans ((Hp9.out.below hb10).bel.mono HB0.out.size))
                  clear hb10 d0 d1 d2
                  go_wp2
                  go_ret
                  exact ⟨rfl, HB10.out⟩
              · (rw [if_pos (by kernel_rfl)])
                go_simp
                refine hK.out _ _ ⟨hx5, cm5⟩ (fun hHeld => ?_)
                clear hK K
                refine wpAnyH_take (i := 9) (oi := ⟨some 68, _, _, _, _, _⟩) (v := ?_) rfl (by kernel_rfl) (by kernel_rfl) (by kernel_rfl) (fun _ _ _ h => h) (Or.inl ⟨by kernel_rfl, ?hy9⟩) (by assumption) ?_
                case hy9 => (intro w' hSw; (try dsimp only at hSw); go_simp; try with_reducible rfl)
                simp only [Act.put, List.setIfInBounds_toArray, List.set_cons_zero, List.set_cons_succ]
                refine wpAnyH_ready (rs := [2]) (by kernel_rfl) (by simp) ?_
                refine AllReadyH.cons (o := ⟨some 61, _, _, _, _, _⟩) rfl (fun K hK => ?_) AllReadyH.nil
                (rw [if_pos (by kernel_rfl)])
                go_simp
                refine hK.out _ _ ⟨hx5, cm5⟩ (fun hHeld => ?_)
                clear hK K
                refine wpAnyH_take (i := 3) (oi := ⟨some 62, _, _, _, _, _⟩) (v := ?_) rfl (by kernel_rfl) (by kernel_rfl) (by kernel_rfl) (fun _ _ _ h => h) (Or.inl ⟨by kernel_rfl, ?hy3⟩) (by assumption) ?_
                case hy3 => (intro w' hSw; (try dsimp only at hSw); go_simp; try with_reducible rfl)
                simp only [Act.put, List.setIfInBounds_toArray, List.set_cons_zero, List.set_cons_succ]
                refine wpAnyH_take (i := 4) (oi := ⟨some 63, _, _, _, _, _⟩) (v := ?_) rfl (by kernel_rfl) (by kernel_rfl) (by kernel_rfl) (fun _ _ _ h => h) (Or.inl ⟨by kernel_rfl, ?hy4⟩) (by assumption) ?_
                case hy4 => (intro w' hSw; (try dsimp only at hSw); go_simp; try with_reducible rfl)
                simp only [Act.put, List.setIfInBounds_toArray, List.set_cons_zero, List.set_cons_succ]
                refine wpAnyH_take (i := 5) (oi := ⟨some 64, _, _, _, _, _⟩) (v := ?_) rfl (by kernel_rfl) (by kernel_rfl) (by kernel_rfl) (fun _ _ _ h => h) (Or.inl ⟨by kernel_rfl, ?hy5⟩) (by assumption) ?_
                case hy5 => (intro w' hSw; (try dsimp only at hSw); go_simp; try with_reducible rfl)
                simp only [Act.put, List.setIfInBounds_toArray, List.set_cons_zero, List.set_cons_succ]
                refine wpAnyH_ready (rs := [6]) (by kernel_rfl) (by simp) ?_
                refine AllReadyH.cons (o := ⟨some 65, _, _, _, _, _⟩) rfl (fun K hK => ?_) AllReadyH.nil
                (rw [if_pos (by kernel_rfl)])
                go_simp
                refine hK.out _ _ ⟨hxb, hmb⟩ (fun hHeld => ?_)
                clear hK K
                refine wpAnyH_ready (rs := [10]) (by kernel_rfl) (by simp) ?_
                refine AllReadyH.cons (o := ⟨some 69, _, _, _, _, _⟩) rfl (fun K hK => ?_) AllReadyH.nil
                refine step_append_g (by kernel_rfl) (.tmp 65) (.tmp 68) 27 rfl _ _ rfl rfl Hrun.out ?_
                refine hK.out _ _ ⟨hx6, cm6⟩ (fun hHeld => ?_)
                clear hK K
                refine wpAnyH_take (i := 11) (oi := ⟨some 70, _, _, _, _, _⟩) (v := ?_) rfl (by kernel_rfl) (by kernel_rfl) (by kernel_rfl) (fun _ _ _ h => h) (Or.inl ⟨by kernel_rfl, ?hy11⟩) (by assumption) ?_
                case hy11 => (intro w' hSw; (try dsimp only at hSw); go_simp; try with_reducible rfl)
                simp only [Act.put, List.setIfInBounds_toArray, List.set_cons_zero, List.set_cons_succ]
                refine wpAnyH_ready (rs := [12]) (by kernel_rfl) (by simp) ?_
                refine AllReadyH.cons (o := ⟨none, _, _, _, _, _⟩) rfl (fun K hK => ?_) AllReadyH.nil
                (rw [if_pos (by kernel_rfl)])
                go_simp
                refine hK.out _ _ ⟨hx7, cm7⟩ (fun hHeld => ?_)
                clear hK K
                refine wpAnyH_done (by kernel_rfl) ?_ _
                go_wp2_with fail
                refine Hal7.out.mono ?_
                rintro e w9 ⟨rfl, hb9⟩
                have Hp9 := Lib.hid (Hp8.out.below hb9)
                have Hs9 := Lib.hid Hp9.out.stands
                have d0 := Hp9.out.box.c0
                have d1 := Hp9.out.box.c1
                have d2 := Hp9.out.box.c2
                clear hb9 hHeld Hal7
                go_wp2_with fail
                refine Hs9.out.mono ?_
                rintro e w10 ⟨rfl, hb10⟩
                have HB10 : Hid (Below w.heap.size w w10) := Lib.hid (HB0.out.trans ((Hp9.out.below hb10).bel.mono HB0.out.size))
                clear hb10 d0 d1 d2
                go_wp2
                go_ret
                exact ⟨rfl, HB10.out⟩
  · have hdf : decide (os.length ≤ 200 ∧ totO os ≤ 4000) = false := decide_eq_false hf
    rw [hdf] at Hfew
    clear hdf hf hO0
    go_enter Try.func8, Try.ntmps8
    go_wp2_with fail
    refine Hfew.out.mono ?_
    rintro e w1 ⟨rfl, hb1⟩
    have HB1 := Lib.hid hb1
    have Hal := Lib.hid (ralive_calls w1)
    clear hb1 Hfew
    go_wp2_with fail
    refine Hal.out.mono ?_
    rintro e w9 ⟨rfl, hb9⟩
    have HB9 := Lib.hid (HB0.out.trans ((HB1.out.trans (hb9.mono HB1.out.size)).mono HB0.out.size))
    clear hb9 Hal
    go_wp2
    go_ret
    exact ⟨rfl, HB9.out⟩
end Go.Proofs.Ytdpijbaolaignaa
