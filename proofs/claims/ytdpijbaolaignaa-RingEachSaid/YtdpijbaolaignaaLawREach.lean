/-
  The walk of RingEach.
-/
import Derived.Test.YtdpijbaolaignaaRPair
namespace Go.Proofs.Ytdpijbaolaignaa
open Go Go.RowKit Go.Shelf
attribute [local go_sem] Oper.semAt_some
set_option maxRecDepth 100000

set_option maxHeartbeats 8000000 in
theorem reach_calls (n : Int) (A : Option Addr) (c : Nat) (os : List OpD) (m : Int) (w : World) (hO : RdO w A os) (hl : os.length ≤ 9223372036854775807) (hm0 : -9223372036854775808 ≤ m) (hm1 : m ≤ 9223372036854775807) :
    Calls Try.prog 5 #[.int .i64 n, .slice A os.length c, .int .i64 m] w fun e w' => e = .returned (.bool true) ∧ Below w.heap.size w w' := by
  obtain ⟨w0, hw0⟩ : ∃ w0, w.alloc (.cells #[.int .i64 m] 3) = w0 := ⟨_, rfl⟩
  have hB0 : Below w.heap.size w w0 := by rw [← hw0]; exact (Below.refl _ w).alloc (Nat.le_refl _) _
  have hx0 : Boxed w0 w.heap.size 3 (.int .i64 m) := by rw [← hw0]; exact Boxed.new w _ _
  have cx0 := hx0.cell
  have HB0 := Lib.hid hB0
  have HX0 := Lib.hid hx0
  have hO0 := hO.below hB0
  have Hfew := Lib.hid (few5_calls A c os w0 hO0 hl)
  clear hB0 hx0 hO
  by_cases hf : os.length ≤ 200 ∧ totO os ≤ 4000
  · have hdt : decide (os.length ≤ 200 ∧ totO os ≤ 4000) = true := decide_eq_true hf
    rw [hdt] at Hfew
    have HO := Lib.hid hO0
    have Hf := Lib.hid hf
    clear hdt hf hO0
    refine (callsIn_wide (n := 4)).1 ?_
    refine callsIn_of_wp_marks Try.func5 rfl trivial ?_ rfl
    simp only [Try.ntmps5, List.size_toArray, List.length_cons, List.length_nil, Nat.reduceAdd, Nat.reduceSub, Array.replicate_succ, Array.replicate_zero, List.push_toArray, List.append_toArray, List.nil_append, List.cons_append]
    refine wpIn_wide.2 ?_
    go_wp2_with fail
    refine Hfew.out.mono ?_
    rintro e w1 ⟨rfl, hb1⟩
    have HB1 := Lib.hid hb1
    have Hn := Lib.hid (new_callsS n w1)
    clear hb1 Hfew hw0 cx0
    go_wp2_with fail
    refine Hn.out.mono ?_
    rintro e w2 ⟨rfl, hw2⟩
    have hr2 : RingS w2 (fun k => k = w1.heap.size) w1.heap.size (RS.new n) := by rw [← hw2]; exact newRingS n w1
    have hB2 : Below w1.heap.size w1 w2 := by rw [← hw2]; exact (Below.refl _ w1).alloc (Nat.le_refl _) _
    have Hr2 := Lib.hid hr2
    have HB2 : Hid (Below w0.heap.size w0 w2) := Lib.hid (HB1.out.trans (hB2.mono HB1.out.size))
    have hz12 : w1.heap.size < w2.heap.size := hr2.lt _ rfl
    have Hrn := Lib.hid (rnew_calls n w2)
    clear hw2 hr2 hB2 Hn
    go_wp2_with fail
    refine Hrn.out.mono ?_
    rintro e w3 ⟨rfl, hb3⟩
    have HB3 : Hid (Below w0.heap.size w0 w3) := Lib.hid (HB2.out.trans (hb3.mono HB2.out.size))
    have hz3 := hb3.size
    have Hr3 := Lib.hid (Hr2.out.below hb3)
    have hz1 := HB1.out.size
    have hp0 : PairAt w0 (w3.alloc (.cells #[.int .i64 ((RS.new n : RS ByteArray).lim : Int), .slice none (RS.new n : RS ByteArray).l.length 0, .int .i64 ((RS.new n : RS ByteArray).i : Int)] 29)) w3.heap.size w1.heap.size none 0 (RS.new n) :=
      ⟨_, Hr3.out.alloc _, fun i e => by subst e; omega, ⟨fun h => absurd h (by simp [RS.new]), by simp [RS.new], by unfold maxLen; omega, fun _ => rfl⟩, fun a e => (by cases e), Bx3.new w3 _ _ _ _, HB3.out.alloc HB3.out.size _, HB3.out.size⟩
    have Hp0 : Hid (PairAt w0 (w3.alloc (.cells #[.int .i64 ((RS.new n : RS ByteArray).lim : Int), .slice none (RS.new n : RS ByteArray).l.length 0, .int .i64 ((RS.new n : RS ByteArray).i : Int)] 29)) w3.heap.size w1.heap.size none 0 (runR (RS.new n) (os.take 0))) := Lib.hid hp0
    clear hb3 Hrn hp0 Hr2 Hr3 HB1 HB2 HB3 hz12 hz3 hz1
    unfold docV
    go_wp2_with fail
    go_loopw [7, 25] (fun v5 v21 wr => ∃ (k b : Nat) (A' : Option Addr) (c' : Nat), k ≤ os.length ∧ v21 = .int .i64 (k : Int) ∧ v5 = .pointer (some ⟨b, 0, none⟩) ∧ Hid (PairAt w0 wr w3.heap.size b A' c' (runR (RS.new n) (os.take k)))) (fun _ v21 _ => os.length - (intOf v21).toNat)
    case atStart => exact ⟨0, w1.heap.size, none, 0, Nat.zero_le _, rfl, rfl, Hp0⟩
    case round =>
      obtain ⟨k, b, A1, c1, hk, rfl, rfl, hpr⟩ := hrel
      by_cases hlt : k < os.length
      · obtain ⟨g, og, rfl, hg, e0, e1, _⟩ := (HO.out.below hpr.out.bel).at_ hlt
        have Hst := Lib.hid (runR_take (RS.new n) os k hlt)
        have hok : (runR (RS.new n) (os.take k) : RS ByteArray).Ok := runR_ok (RS.Ok.new n) _
        have Hok := Lib.hid hok
        have Hsm : Hid (∀ x ∈ (runR (RS.new n) (os.take k) : RS ByteArray).l, ¬ 9223372036854775807 < x.size + (os.getD k OpD.none_).t.size) := Lib.hid (fun x hx => by
          have h1 := small_run n os k (by omega) x hx
          have h2 := totO_take os k hlt
          have h3 := totO_mono os (k + 1) os.length (by omega)
          rw [List.take_length] at h3
          have h4 := Hf.out.2
          omega)
        have M4 : Hid (Bx (wr.alloc (.cells #[.int .i64 (os.getD k OpD.none_).k, .string (os.getD k OpD.none_).t] 32)) wr.heap.size 32 (.int .i64 (os.getD k OpD.none_).k) (.string (os.getD k OpD.none_).t)) := Lib.hid (Bx.new wr _ _ _)
        have Hlt : Hid (w3.heap.size < wr.heap.size) := Lib.hid hpr.out.box.lt
        have Hdoes := Lib.hid (hpr.out.does (os.getD k OpD.none_) Hsm.out (.cells #[.int .i64 (os.getD k OpD.none_).k, .string (os.getD k OpD.none_).t] 32))
        have p0 := (hpr.out.alloc (.cells #[.int .i64 (os.getD k OpD.none_).k, .string (os.getD k OpD.none_).t] 32)).box.c0
        have p1 := (hpr.out.alloc (.cells #[.int .i64 (os.getD k OpD.none_).k, .string (os.getD k OpD.none_).t] 32)).box.c1
        have p2 := (hpr.out.alloc (.cells #[.int .i64 (os.getD k OpD.none_).k, .string (os.getD k OpD.none_).t] 32)).box.c2
        clear Hp0 hpr hok
        generalize os.getD k OpD.none_ = o at *
        generalize (runR (RS.new n) (os.take k) : RS ByteArray) = st at *
        have hkl : (k : Int) < (os.length : Int) := by omega
        go_wp2_with fail
        refine wp_region_noPanic ?_
        refine wp_region_held_drew (S := (fun w' => w'.cell? ⟨wr.heap.size, 0, none⟩ = some (.int .i64 o.k) ∧ w'.cell? ⟨wr.heap.size, 1, none⟩ = some (.string o.t))) (by kernel_rfl) ⟨M4.out.c0, M4.out.c1⟩ (fun hHeld => ?_)
        refine wpAnyH_take (i := 0) (oi := ⟨some 29, _, _, _, _, _⟩) (v := ?_) rfl (by kernel_rfl) (by kernel_rfl) (by kernel_rfl) (fun _ _ _ h => h) (Or.inl ⟨by kernel_rfl, ?hy0⟩) (by assumption) ?_
        case hy0 => (intro w' hSw; (try dsimp only at hSw); go_simp; try with_reducible rfl)
        simp only [Act.put, List.setIfInBounds_toArray, List.set_cons_zero, List.set_cons_succ]
        refine wpAnyH_take (i := 1) (oi := ⟨some 30, _, _, _, _, _⟩) (v := ?_) rfl (by kernel_rfl) (by kernel_rfl) (by kernel_rfl) (fun _ _ _ h => h) (Or.inl ⟨by kernel_rfl, ?hy1⟩) (by assumption) ?_
        case hy1 => (intro w' hSw; (try dsimp only at hSw); go_simp; try with_reducible rfl)
        simp only [Act.put, List.setIfInBounds_toArray, List.set_cons_zero, List.set_cons_succ]
        refine wpAnyH_take (i := 4) (oi := ⟨some 33, _, _, _, _, _⟩) (v := ?_) rfl (by kernel_rfl) (by kernel_rfl) (by kernel_rfl) (fun _ _ _ h => h) (Or.inl ⟨by kernel_rfl, ?hy4⟩) (by assumption) ?_
        case hy4 => (intro w' hSw; (try dsimp only at hSw); go_simp; try with_reducible rfl)
        simp only [Act.put, List.setIfInBounds_toArray, List.set_cons_zero, List.set_cons_succ]
        refine wpAnyH_ready (rs := [2, 3]) (by kernel_rfl) (by simp) ?_
        refine AllReadyH.cons (o := ⟨some 31, _, _, _, _, _⟩) rfl (fun K hK => ?_) (AllReadyH.cons (o := ⟨some 32, _, _, _, _, _⟩) rfl (fun K hK => ?_) AllReadyH.nil)
        · (rw [if_pos (by kernel_rfl)])
          go_simp
          refine Hdoes.out.mono ?_
          rintro e w5 ⟨b', rfl, hp5, hk5⟩
          have m5 : Bx w5 wr.heap.size 32 (.int .i64 o.k) (.string o.t) := hk5.trans (Bx.new wr _ _ _)
          have Hp5 := Lib.hid hp5
          have M5 := Lib.hid m5
          have q0 := hp5.box.c0
          have q1 := hp5.box.c1
          have q2 := hp5.box.c2
          refine hK.out _ _ ⟨m5.c0, m5.c1⟩ (fun hHeld => ?_)
          clear hK K
          clear hp5 hk5 m5
          refine wpAnyH_ready (rs := [3]) (by kernel_rfl) (by simp) ?_
          refine AllReadyH.cons (o := ⟨some 32, _, _, _, _, _⟩) rfl (fun K hK => ?_) AllReadyH.nil
          (rw [if_pos (by kernel_rfl)])
          go_simp
          refine hK.out _ _ ⟨M5.out.c0, M5.out.c1⟩ (fun hHeld => ?_)
          clear hK K
          refine wpAnyH_ready (rs := [5]) (by kernel_rfl) (by simp) ?_
          refine AllReadyH.cons (o := ⟨some 34, _, _, _, _, _⟩) rfl (fun K hK => ?_) AllReadyH.nil
          (rw [if_pos (by kernel_rfl)])
          go_simp
          refine (Hp5.out.do_ Hok.out o Hsm.out).mono ?_
          rintro e w6 ⟨A', c', rfl, hp6, hb6⟩
          have m6 : Bx w6 wr.heap.size 32 (.int .i64 o.k) (.string o.t) := M5.out.below hb6
          have Hp6 := Lib.hid hp6
          have z0 := hp6.box.c0
          have z1 := hp6.box.c1
          have z2 := hp6.box.c2
          have g0 := hp6.box.f0
          have g1 := hp6.box.f1
          have g2 := hp6.box.f2
          have Hp7 := Lib.hid (hp6.store (.int .i64 ((doR st o).lim : Int)) (.slice A' (doR st o).l.length c') (.int .i64 ((doR st o).i : Int)))
          have k0 := m6.c0
          have k1 := m6.c1
          have M6 := Lib.hid m6
          have hne : w3.heap.size ≠ wr.heap.size := by have := Hlt.out; omega
          refine hK.out _ _ ⟨k0, k1⟩ (fun hHeld => ?_)
          clear hK K
          clear hp6 hb6 m6 q0 q1 q2
          refine wpAnyH_take (i := 6) (oi := ⟨some 7, _, _, _, _, _⟩) (v := ?_) rfl (by kernel_rfl) (by kernel_rfl) (by kernel_rfl) (fun _ _ _ h => h) (Or.inl ⟨by kernel_rfl, ?hy6⟩) (by assumption) ?_
          case hy6 => (intro w' hSw; (try dsimp only at hSw); go_simp; try with_reducible rfl)
          simp only [Act.put, List.setIfInBounds_toArray, List.set_cons_zero, List.set_cons_succ]
          have y0 : ((((w6.setCell ⟨w3.heap.size, 0, none⟩ (.int .i64 ((doR st o).lim : Int))).setCell ⟨w3.heap.size, 1, none⟩ (.slice A' (doR st o).l.length c')).setCell ⟨w3.heap.size, 2, none⟩ (.int .i64 ((doR st o).i : Int)))).cell? ⟨wr.heap.size, 0, none⟩ = some (.int .i64 o.k) := by
            rw [World.cell?_setCell_far _ _ _ _ (by simpa using hne), World.cell?_setCell_far _ _ _ _ (by simpa using hne), World.cell?_setCell_far _ _ _ _ (by simpa using hne)]; exact k0
          have y1 : ((((w6.setCell ⟨w3.heap.size, 0, none⟩ (.int .i64 ((doR st o).lim : Int))).setCell ⟨w3.heap.size, 1, none⟩ (.slice A' (doR st o).l.length c')).setCell ⟨w3.heap.size, 2, none⟩ (.int .i64 ((doR st o).i : Int)))).cell? ⟨wr.heap.size, 1, none⟩ = some (.string o.t) := by
            rw [World.cell?_setCell_far _ _ _ _ (by simpa using hne), World.cell?_setCell_far _ _ _ _ (by simpa using hne), World.cell?_setCell_far _ _ _ _ (by simpa using hne)]; exact k1
          refine wpAnyH_ready (rs := [7]) (by kernel_rfl) (by simp) ?_
          refine AllReadyH.cons (o := ⟨none, _, _, _, _, _⟩) rfl (fun K hK => ?_) AllReadyH.nil
          (rw [if_pos (by kernel_rfl)])
          go_simp
          refine hK.out _ _ ⟨y0, y1⟩ (fun hHeld => ?_)
          clear hK K
          refine wpAnyH_done (by kernel_rfl) (NoPanic.normal ?_) _
          have n0 := Hp7.out.box.c0
          have n1 := Hp7.out.box.c1
          have n2 := Hp7.out.box.c2
          clear z0 z1 z2 g0 g1 g2 k0 k1 y0 y1 hHeld M5 M6 Hp5 Hp6
          clear n0 n1 n2
          go_wp2_with fail
          go_roundw
          case rel => exact ⟨k + 1, b', A', c', by omega, by go_num, rfl, by rw [Hst.out]; exact Hp7⟩
          case measure => simp [intOf]; omega
        · (rw [if_pos (by kernel_rfl)])
          go_simp
          refine hK.out _ _ ⟨M4.out.c0, M4.out.c1⟩ (fun hHeld => ?_)
          clear hK K
          refine wpAnyH_ready (rs := [2]) (by kernel_rfl) (by simp) ?_
          refine AllReadyH.cons (o := ⟨some 31, _, _, _, _, _⟩) rfl (fun K hK => ?_) AllReadyH.nil
          (rw [if_pos (by kernel_rfl)])
          go_simp
          refine Hdoes.out.mono ?_
          rintro e w5 ⟨b', rfl, hp5, hk5⟩
          have m5 : Bx w5 wr.heap.size 32 (.int .i64 o.k) (.string o.t) := hk5.trans (Bx.new wr _ _ _)
          have Hp5 := Lib.hid hp5
          have M5 := Lib.hid m5
          have q0 := hp5.box.c0
          have q1 := hp5.box.c1
          have q2 := hp5.box.c2
          refine hK.out _ _ ⟨m5.c0, m5.c1⟩ (fun hHeld => ?_)
          clear hK K
          clear hp5 hk5 m5
          refine wpAnyH_ready (rs := [5]) (by kernel_rfl) (by simp) ?_
          refine AllReadyH.cons (o := ⟨some 34, _, _, _, _, _⟩) rfl (fun K hK => ?_) AllReadyH.nil
          (rw [if_pos (by kernel_rfl)])
          go_simp
          refine (Hp5.out.do_ Hok.out o Hsm.out).mono ?_
          rintro e w6 ⟨A', c', rfl, hp6, hb6⟩
          have m6 : Bx w6 wr.heap.size 32 (.int .i64 o.k) (.string o.t) := M5.out.below hb6
          have Hp6 := Lib.hid hp6
          have z0 := hp6.box.c0
          have z1 := hp6.box.c1
          have z2 := hp6.box.c2
          have g0 := hp6.box.f0
          have g1 := hp6.box.f1
          have g2 := hp6.box.f2
          have Hp7 := Lib.hid (hp6.store (.int .i64 ((doR st o).lim : Int)) (.slice A' (doR st o).l.length c') (.int .i64 ((doR st o).i : Int)))
          have k0 := m6.c0
          have k1 := m6.c1
          have M6 := Lib.hid m6
          have hne : w3.heap.size ≠ wr.heap.size := by have := Hlt.out; omega
          refine hK.out _ _ ⟨k0, k1⟩ (fun hHeld => ?_)
          clear hK K
          clear hp6 hb6 m6 q0 q1 q2
          refine wpAnyH_take (i := 6) (oi := ⟨some 7, _, _, _, _, _⟩) (v := ?_) rfl (by kernel_rfl) (by kernel_rfl) (by kernel_rfl) (fun _ _ _ h => h) (Or.inl ⟨by kernel_rfl, ?hy6⟩) (by assumption) ?_
          case hy6 => (intro w' hSw; (try dsimp only at hSw); go_simp; try with_reducible rfl)
          simp only [Act.put, List.setIfInBounds_toArray, List.set_cons_zero, List.set_cons_succ]
          have y0 : ((((w6.setCell ⟨w3.heap.size, 0, none⟩ (.int .i64 ((doR st o).lim : Int))).setCell ⟨w3.heap.size, 1, none⟩ (.slice A' (doR st o).l.length c')).setCell ⟨w3.heap.size, 2, none⟩ (.int .i64 ((doR st o).i : Int)))).cell? ⟨wr.heap.size, 0, none⟩ = some (.int .i64 o.k) := by
            rw [World.cell?_setCell_far _ _ _ _ (by simpa using hne), World.cell?_setCell_far _ _ _ _ (by simpa using hne), World.cell?_setCell_far _ _ _ _ (by simpa using hne)]; exact k0
          have y1 : ((((w6.setCell ⟨w3.heap.size, 0, none⟩ (.int .i64 ((doR st o).lim : Int))).setCell ⟨w3.heap.size, 1, none⟩ (.slice A' (doR st o).l.length c')).setCell ⟨w3.heap.size, 2, none⟩ (.int .i64 ((doR st o).i : Int)))).cell? ⟨wr.heap.size, 1, none⟩ = some (.string o.t) := by
            rw [World.cell?_setCell_far _ _ _ _ (by simpa using hne), World.cell?_setCell_far _ _ _ _ (by simpa using hne), World.cell?_setCell_far _ _ _ _ (by simpa using hne)]; exact k1
          refine wpAnyH_ready (rs := [7]) (by kernel_rfl) (by simp) ?_
          refine AllReadyH.cons (o := ⟨none, _, _, _, _, _⟩) rfl (fun K hK => ?_) AllReadyH.nil
          (rw [if_pos (by kernel_rfl)])
          go_simp
          refine hK.out _ _ ⟨y0, y1⟩ (fun hHeld => ?_)
          clear hK K
          refine wpAnyH_done (by kernel_rfl) (NoPanic.normal ?_) _
          have n0 := Hp7.out.box.c0
          have n1 := Hp7.out.box.c1
          have n2 := Hp7.out.box.c2
          clear z0 z1 z2 g0 g1 g2 k0 k1 y0 y1 hHeld M5 M6 Hp5 Hp6
          clear n0 n1 n2
          go_wp2_with fail
          go_roundw
          case rel => exact ⟨k + 1, b', A', c', by omega, by go_num, rfl, by rw [Hst.out]; exact Hp7⟩
          case measure => simp [intOf]; omega
      · obtain rfl : k = os.length := by omega
        clear Hp0
        obtain ⟨st, hst⟩ : ∃ st : RS ByteArray, runR (RS.new n) (os.take os.length) = st := ⟨_, rfl⟩
        rw [hst] at hpr
        clear hst
        have hln := hpr.out.ok.len
        have hle := hpr.out.ok.le
        have Hal := Lib.hid (callsIn_wide.1 (all_inS 0 b (wr.alloc (.cells #[.int .i64 0] 3))))
        go_wp2_with fail
        refine Hal.out.mono ?_
        rintro e w' ⟨rfl, rfl⟩
        clear Hal
        go_wp2_with fail
        refine (wpIn_wide (n := 4)).1 ?_
        obtain ⟨W0, hW0⟩ : ∃ W0, (wr.alloc (.cells #[.int .i64 0] 3)).alloc (.cells #[.pointer (some ⟨b, 0, none⟩)] 25) = W0 := ⟨_, rfl⟩
        have x2 := (Boxed.new wr 3 (.int .i64 0)).alloc (.cells #[.pointer (some ⟨b, 0, none⟩)] 25)
        have x3 := Boxed.new (wr.alloc (.cells #[.int .i64 0] 3)) 25 (.pointer (some ⟨b, 0, none⟩))
        simp only [World.size_alloc] at x3
        have hszW : W0.heap.size = wr.heap.size + 2 := by rw [← hW0]; simp
        have hbW : Below wr.heap.size wr W0 := by
          rw [← hW0]
          exact ((Below.refl _ wr).alloc (Nat.le_refl _) _).alloc (by simp) _
        rw [hW0] at x2 x3 ⊢
        clear hW0
        obtain ⟨R, hR⟩ := hpr.out.ring
        have hRlt := hR.lt
        have hzr := hpr.out.bel.size
        have hz0 := HX0.out.lt
        refine wpIn_rangeFunc_ownG rfl (by omega) (gf := 36) (lb := #[.pointer (some ⟨wr.heap.size + 1, 0, none⟩)]) rfl trivial (enters_of Try.func36 (by kernel_rfl) rfl)
          (all_stopsS 3 (by omega) (wr.heap.size + 1) wr.heap.size _ R b st (hR.below hbW) hRlt x3) belowK_t (belowK_b (by omega)) (Below.refl _ _) (fun _ => rfl)
          (fun pre W => Boxed W wr.heap.size 3 (.int .i64 (pre.length : Int)) ∧ ((Below wr.heap.size wr W ∧ wr.heap.size + 2 ≤ W.heap.size) ∧ (1 ≤ m → (pre.length : Int) < m)))
          (fun c pre W => (c = .exit 2 ∧ (pre.length : Int) = m ∧ 1 ≤ m) ∧ (Boxed W wr.heap.size 3 (.int .i64 (pre.length : Int)) ∧ (Below wr.heap.size wr W ∧ wr.heap.size + 2 ≤ W.heap.size)))
          (OwnFrom.and (Own.from (boxed_own wr.heap.size 3 (fun pre : List (OfL st.l) => .int .i64 (pre.length : Int))) _) (OwnFrom.and (OwnFrom.and (ownFrom_below (Nat.le_refl _) (by omega)) (ownFrom_sz _ _)) (ownFrom_pure _ _)))
          (fun c => OwnFrom.and (ownFrom_pure _ _) (OwnFrom.and (Own.from (boxed_own wr.heap.size 3 (fun pre : List (OfL st.l) => .int .i64 (pre.length : Int))) _) (OwnFrom.and (ownFrom_below (Nat.le_refl _) (by omega)) (ownFrom_sz _ _))))
          ⟨x2, ⟨hbW, by omega⟩, fun h => by show (0 : Int) < m; omega⟩
          (fun x => { tmps := #[.int .i64 n, .slice A os.length c, .int .i64 m, undef, undef, .pointer (some ⟨w.heap.size, 0, none⟩), u6, .pointer (some ⟨b, 0, none⟩), .pointer (some ⟨w3.heap.size, 0, none⟩), undef, u10, .pointer (some ⟨wr.heap.size, 0, none⟩), undef, .slice A os.length c, .bool true, .bool false, undef, .int .i64 n, .pointer (some ⟨w1.heap.size, 0, none⟩), .int .i64 n, .agg #[.int .i64 ((RS.new n : RS ByteArray).lim : Int), .slice none (RS.new n : RS ByteArray).l.length 0, .int .i64 ((RS.new n : RS ByteArray).i : Int)], .pointer (some ⟨w1.heap.size, 0, none⟩), .bool false, .slice A os.length c, .int .i64 (os.length : Int), .int .i64 (os.length : Int), .bool false, u27, u28, u29, u30, u31, u32, u33, u34, u35, u36, u37, .pointer (some ⟨b, 0, none⟩), .func (.func 36) #[] #[.pointer (some ⟨wr.heap.size + 1, 0, none⟩)], .int .i64 (x.1.1 : Int), .string x.1.2, undef, undef, undef, undef, undef, undef, undef, undef, undef, undef, undef, undef, undef, undef, undef, undef, undef, undef, undef, undef, undef, undef, undef, undef], defers := [] }) ?assign ?body ?done ?stop
        case assign =>
          intro l' x W K hK
          gi_wp2
          exact hK
        case body =>
          rintro l' pre x W ⟨hn, ⟨hB, hsz⟩, hm⟩ hlt
          have cn := hn.cell
          have fn := hn.frozen
          have cm : W.cell? ⟨w.heap.size, 0, none⟩ = some (.int .i64 m) := by
            rw [hB.cell (p := ⟨w.heap.size, 0, none⟩) (by show w.heap.size < wr.heap.size; omega), hpr.out.bel.cell (p := ⟨w.heap.size, 0, none⟩) hz0]; exact HX0.out.cell
          have hw : IntKind.i64.wrap ((pre.length : Int) + 1) = (pre.length : Int) + 1 := IntWalk.i64_in _ (by omega)
          have Hn := Lib.hid hn
          have HB := Lib.hid hB
          have Hm := Lib.hid hm
          have hset : Boxed (W.setCell ⟨wr.heap.size, 0, none⟩ (.int .i64 ((pre.length : Int) + 1))) wr.heap.size 3 (.int .i64 (((pre ++ [x]).length : Nat) : Int)) := by
            have := Hn.out.set (.int .i64 ((pre.length : Int) + 1))
            simpa using this
          have HS := Lib.hid hset
          have hBs : Below wr.heap.size wr (W.setCell ⟨wr.heap.size, 0, none⟩ (.int .i64 ((pre.length : Int) + 1))) := hB.setCell (p := ⟨wr.heap.size, 0, none⟩) (Nat.le_refl _) _
          have hBs2 : Below wr.heap.size W (W.setCell ⟨wr.heap.size, 0, none⟩ (.int .i64 ((pre.length : Int) + 1))) := (Below.refl wr.heap.size W).setCell (p := ⟨wr.heap.size, 0, none⟩) (Nat.le_refl _) _
          have HBs := Lib.hid hBs
          have HBs2 := Lib.hid hBs2
          have hzs : wr.heap.size + 2 ≤ (W.setCell ⟨wr.heap.size, 0, none⟩ (.int .i64 ((pre.length : Int) + 1))).heap.size := Nat.le_trans hsz (KeepsOthers.setCell _ _ _).size
          have Hzs := Lib.hid hzs
          clear hn hB hm hset hBs hBs2 hzs
          by_cases he : (pre.length : Int) + 1 = m
          · have hq : ((pre.length : Int) + 1 == m) = true := by rw [he]; simp
            have He := Lib.hid he
            clear he
            gi_wp2
            exact ⟨(KeepsOthers.setCell _ _ _).from _, ⟨rfl, by rw [← He.out]; simp, by have := He.out; omega⟩, HS.out, HBs.out, Hzs.out⟩
          · have hq : ((pre.length : Int) + 1 == m) = false := beq_eq_false_iff_ne.2 he
            have He := Lib.hid he
            clear he
            gi_wp2
            refine ⟨(KeepsOthers.setCell _ _ _).from _, HBs2.out, HS.out, ⟨HBs.out, Hzs.out⟩, fun h => by have := Hm.out h; have := He.out; simp; omega⟩
        case done =>
          rintro D ys W hD hys ⟨hn, ⟨hB, hsz⟩, hm⟩ hK
          have hyl : ys.length = st.l.length := by rw [← vals_length, hys, told_length]
          rw [hyl] at hn hm
          have hcc : ((st.l.length : Int) == (st.l.length : Int)) = true := by simp
          have cn := hn.cell
          have cm : W.cell? ⟨w.heap.size, 0, none⟩ = some (.int .i64 m) := by
            rw [hB.cell (p := ⟨w.heap.size, 0, none⟩) (by show w.heap.size < wr.heap.size; omega), hpr.out.bel.cell (p := ⟨w.heap.size, 0, none⟩) hz0]; exact HX0.out.cell
          have Hp5 := Lib.hid (hpr.out.below hB)
          have cd := Hp5.out.box.c1
          have Hal2 := Lib.hid (ralive_calls W)
          have Hn := Lib.hid hn
          have HK := Lib.hid hK
          clear hn hB hK hys hyl
          by_cases h1 : 1 ≤ m
          · have hq : decide ((1 : Int) ≤ m) = true := decide_eq_true h1
            have hlt : decide (m < (st.l.length : Int)) = false := decide_eq_false (by have := hm h1; omega)
            have hge : (st.l.length : Int) ≤ m := by have := hm h1; omega
            clear hm h1
            go_wp2_with fail
            refine Hal2.out.mono ?_
            rintro e w5 ⟨rfl, hb5⟩
            have Hp6 := Lib.hid (Hp5.out.below hb5)
            have Hs6 := Lib.hid Hp6.out.stands
            have d0 := Hp6.out.box.c0
            have d1 := Hp6.out.box.c1
            have d2 := Hp6.out.box.c2
            have n5 : Boxed w5 wr.heap.size 3 _ := (hb5.block _ Hn.out.lt).trans Hn.out
            have cn5 := n5.cell
            have HK5 : Hid (w5.heap[D]? = some (.deferred (some []))) := Lib.hid ((hb5.block D (Array.getElem?_eq_some_iff.1 HK.out).1).trans HK.out)
            clear hb5 n5 cd Hal2
            go_wp2_with fail
            refine Hs6.out.mono ?_
            rintro e w7 ⟨rfl, hb7⟩
            have HK7 : Hid (w7.heap[D]? = some (.deferred (some []))) := Lib.hid ((hb7.block D (Array.getElem?_eq_some_iff.1 HK5.out).1).trans HK5.out)
            have HB7 : Hid (Below w.heap.size w w7) := Lib.hid (HB0.out.trans ((Hp6.out.below hb7).bel.mono HB0.out.size))
            clear hb7 d0 d1 d2 cn5 Hs6
            go_wp2
            refine ⟨by simp, .inl ⟨_, _, rfl, run_takeDeferred HK7.out, ?_⟩⟩
            exact ⟨_, results_tmp rfl _ _ _, rfl, HB7.out.trans (belowK_b (w := w) (Nat.le_refl _) w7 D _ _ (by omega) HK7.out rfl rfl)⟩
          · have hq : decide ((1 : Int) ≤ m) = false := decide_eq_false h1
            have h1' : m < 1 := by omega
            clear hm h1
            go_wp2_with fail
            refine Hal2.out.mono ?_
            rintro e w5 ⟨rfl, hb5⟩
            have Hp6 := Lib.hid (Hp5.out.below hb5)
            have Hs6 := Lib.hid Hp6.out.stands
            have d0 := Hp6.out.box.c0
            have d1 := Hp6.out.box.c1
            have d2 := Hp6.out.box.c2
            have n5 : Boxed w5 wr.heap.size 3 _ := (hb5.block _ Hn.out.lt).trans Hn.out
            have cn5 := n5.cell
            have HK5 : Hid (w5.heap[D]? = some (.deferred (some []))) := Lib.hid ((hb5.block D (Array.getElem?_eq_some_iff.1 HK.out).1).trans HK.out)
            clear hb5 n5 cd Hal2
            go_wp2_with fail
            refine Hs6.out.mono ?_
            rintro e w7 ⟨rfl, hb7⟩
            have HK7 : Hid (w7.heap[D]? = some (.deferred (some []))) := Lib.hid ((hb7.block D (Array.getElem?_eq_some_iff.1 HK5.out).1).trans HK5.out)
            have HB7 : Hid (Below w.heap.size w w7) := Lib.hid (HB0.out.trans ((Hp6.out.below hb7).bel.mono HB0.out.size))
            clear hb7 d0 d1 d2 cn5 Hs6
            go_wp2
            refine ⟨by simp, .inl ⟨_, _, rfl, run_takeDeferred HK7.out, ?_⟩⟩
            exact ⟨_, results_tmp rfl _ _ _, rfl, HB7.out.trans (belowK_b (w := w) (Nat.le_refl _) w7 D _ _ (by omega) HK7.out rfl rfl)⟩
        case stop =>
          rintro D c pre W hD hSp ⟨⟨rfl, hpm, h1⟩, hn, hB, hsz⟩ hK
          have hpl : pre.length ≤ st.l.length := by
            have := hSp.length_le
            rw [vals_length, told_length] at this
            exact this
          rw [hpm] at hn
          have cn := hn.cell
          have cm : W.cell? ⟨w.heap.size, 0, none⟩ = some (.int .i64 m) := by
            rw [hB.cell (p := ⟨w.heap.size, 0, none⟩) (by show w.heap.size < wr.heap.size; omega), hpr.out.bel.cell (p := ⟨w.heap.size, 0, none⟩) hz0]; exact HX0.out.cell
          have Hp5 := Lib.hid (hpr.out.below hB)
          have cd := Hp5.out.box.c1
          have Hal2 := Lib.hid (ralive_calls W)
          have Hn := Lib.hid hn
          have HK := Lib.hid hK
          have hq : decide ((1 : Int) ≤ m) = true := decide_eq_true h1
          have hcc : (m == m) = true := by simp
          by_cases hlt : m < (st.l.length : Int)
          · have hlt' : decide (m < (st.l.length : Int)) = true := decide_eq_true hlt
            clear hn hB hK hpm hpl
            refine wpIn_wide.2 ?_
            go_wp2_with fail
            refine Hal2.out.mono ?_
            rintro e w5 ⟨rfl, hb5⟩
            have Hp6 := Lib.hid (Hp5.out.below hb5)
            have Hs6 := Lib.hid Hp6.out.stands
            have d0 := Hp6.out.box.c0
            have d1 := Hp6.out.box.c1
            have d2 := Hp6.out.box.c2
            have n5 : Boxed w5 wr.heap.size 3 _ := (hb5.block _ Hn.out.lt).trans Hn.out
            have cn5 := n5.cell
            have HK5 : Hid (w5.heap[D]? = some (.deferred (some []))) := Lib.hid ((hb5.block D (Array.getElem?_eq_some_iff.1 HK.out).1).trans HK.out)
            clear hb5 n5 cd Hal2
            go_wp2_with fail
            refine Hs6.out.mono ?_
            rintro e w7 ⟨rfl, hb7⟩
            have HK7 : Hid (w7.heap[D]? = some (.deferred (some []))) := Lib.hid ((hb7.block D (Array.getElem?_eq_some_iff.1 HK5.out).1).trans HK5.out)
            have HB7 : Hid (Below w.heap.size w w7) := Lib.hid (HB0.out.trans ((Hp6.out.below hb7).bel.mono HB0.out.size))
            clear hb7 d0 d1 d2 cn5 Hs6
            go_wp2
            refine ⟨by simp, .inl ⟨_, _, rfl, run_takeDeferred HK7.out, ?_⟩⟩
            exact ⟨_, results_tmp rfl _ _ _, rfl, HB7.out.trans (belowK_b (w := w) (Nat.le_refl _) w7 D _ _ (by omega) HK7.out rfl rfl)⟩
          · have hlt' : decide (m < (st.l.length : Int)) = false := decide_eq_false hlt
            have hem : (st.l.length : Int) = m := by omega
            have hcc' : (m == (st.l.length : Int)) = true := by rw [hem]; simp
            clear hn hB hK hpm hpl
            refine wpIn_wide.2 ?_
            go_wp2_with fail
            refine Hal2.out.mono ?_
            rintro e w5 ⟨rfl, hb5⟩
            have Hp6 := Lib.hid (Hp5.out.below hb5)
            have Hs6 := Lib.hid Hp6.out.stands
            have d0 := Hp6.out.box.c0
            have d1 := Hp6.out.box.c1
            have d2 := Hp6.out.box.c2
            have n5 : Boxed w5 wr.heap.size 3 _ := (hb5.block _ Hn.out.lt).trans Hn.out
            have cn5 := n5.cell
            have HK5 : Hid (w5.heap[D]? = some (.deferred (some []))) := Lib.hid ((hb5.block D (Array.getElem?_eq_some_iff.1 HK.out).1).trans HK.out)
            clear hb5 n5 cd Hal2
            go_wp2_with fail
            refine Hs6.out.mono ?_
            rintro e w7 ⟨rfl, hb7⟩
            have HK7 : Hid (w7.heap[D]? = some (.deferred (some []))) := Lib.hid ((hb7.block D (Array.getElem?_eq_some_iff.1 HK5.out).1).trans HK5.out)
            have HB7 : Hid (Below w.heap.size w w7) := Lib.hid (HB0.out.trans ((Hp6.out.below hb7).bel.mono HB0.out.size))
            clear hb7 d0 d1 d2 cn5 Hs6
            go_wp2
            refine ⟨by simp, .inl ⟨_, _, rfl, run_takeDeferred HK7.out, ?_⟩⟩
            exact ⟨_, results_tmp rfl _ _ _, rfl, HB7.out.trans (belowK_b (w := w) (Nat.le_refl _) w7 D _ _ (by omega) HK7.out rfl rfl)⟩
  · have hdf : decide (os.length ≤ 200 ∧ totO os ≤ 4000) = false := decide_eq_false hf
    rw [hdf] at Hfew
    clear hdf hf hO0
    go_enter Try.func5, Try.ntmps5
    go_wp2_with fail
    refine Hfew.out.mono ?_
    rintro e w1 ⟨rfl, hb1⟩
    have HB1 := Lib.hid hb1
    have Hal := Lib.hid (ralive_calls w1)
    clear hb1 Hfew
    go_wp2_with fail
    refine Hal.out.mono ?_
    rintro e w9 ⟨rfl, hb9⟩
    have HB9 := Lib.hid (HB0.out.trans ((HB1.out.trans (hb9.mono HB1.out.size)).mono HB0.out.size))
    clear hb9 Hal
    go_wp2
    go_ret
    exact ⟨rfl, HB9.out⟩
end Go.Proofs.Ytdpijbaolaignaa
