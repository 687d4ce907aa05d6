/-
  The walk of RingKinds.
-/
import Derived.Test.YtdpijbaolaignaaRPair
import Derived.Lib.MinMax
namespace Go.Proofs.Ytdpijbaolaignaa
open Go Go.RowKit Go.Shelf
attribute [local go_sem] Oper.semAt_some
set_option maxRecDepth 100000

set_option maxHeartbeats 8000000 in
theorem rkinds_calls (n : Int) (A : Option Addr) (c : Nat) (l : List Int) (w : World) (hV : RdV (Value.int .i64) w A l) (hl : l.length ≤ 9223372036854775807) :
    Calls Try.prog 6 #[.int .i64 n, .slice A l.length c] w fun e w' => e = .returned (.bool true) ∧ Below w.heap.size w w' := by
  obtain ⟨w0, hw0⟩ : ∃ w0, (w.alloc (.cells #[.slice A l.length c] 44)).alloc (.cells #[.bool false] 4) = w0 := ⟨_, rfl⟩
  have hB0 : Below w.heap.size w w0 := by rw [← hw0]; exact ((Below.refl _ w).alloc (Nat.le_refl _) _).alloc (by simp) _
  have hz0 : w0.heap.size = w.heap.size + 2 := by rw [← hw0]; simp
  have hx0 : Boxed w0 w.heap.size 44 (.slice A l.length c) := by rw [← hw0]; exact (Boxed.new w _ _).alloc _
  have hx1 : Boxed w0 (w.heap.size + 1) 4 (.bool false) := by
    have := Boxed.new (w.alloc (.cells #[.slice A l.length c] 44)) 4 (.bool false)
    simp only [World.size_alloc] at this
    rw [hw0] at this; exact this
  have cx0 := hx0.cell
  have cx1 := hx1.cell
  have fx1 := hx1.frozen
  have HB0 := Lib.hid hB0
  have Hz0 := Lib.hid hz0
  have HX0 := Lib.hid hx0
  have HX1 := Lib.hid hx1
  have HV := Lib.hid (hV.below hB0)
  clear hB0 hx0 hx1 hV hz0
  by_cases hf : 200 < l.length
  · have hgt : decide (200 < (l.length : Int)) = true := decide_eq_true (by omega)
    have Hal := Lib.hid (ralive_calls w0)
    go_enter Try.func6, Try.ntmps6
    go_wp2_with fail
    refine Hal.out.mono ?_
    rintro e w9 ⟨rfl, hb9⟩
    have hx9 : Boxed w9 (w.heap.size + 1) 4 (.bool false) := (hb9.block _ HX1.out.lt).trans HX1.out
    have cx9 := hx9.cell
    have fx9 := hx9.frozen
    have HB9 := Lib.hid (HB0.out.trans (hb9.mono HB0.out.size))
    have HX9 := Lib.hid hx9
    clear hb9 Hal hx9
    go_wp2
    refine bodyPost_ret (results_bool rfl _ _ (w.heap.size + 1) (.bool true) 4 rfl (HX9.out.set (.bool true)) Try.underlying4) rfl ?_
    exact ⟨rfl, HB9.out.setCell (p := ⟨w.heap.size + 1, 0, none⟩) (by show w.heap.size ≤ w.heap.size + 1; omega) _⟩
  · have hgt : decide (200 < (l.length : Int)) = false := decide_eq_false (by omega)
    have Hn := Lib.hid (new_callsI n w0)
    refine (callsIn_wide (n := 4)).1 ?_
    refine callsIn_of_wp_marks Try.func6 rfl trivial ?_ rfl
    simp only [Try.ntmps6, List.size_toArray, List.length_cons, List.length_nil, Nat.reduceAdd, Nat.reduceSub, Array.replicate_succ, Array.replicate_zero, List.push_toArray, List.append_toArray, List.nil_append, List.cons_append]
    refine wpIn_wide.2 ?_
    go_wp2_with fail
    refine Hn.out.mono ?_
    rintro e w1 ⟨rfl, hw1⟩
    have h1 : InI w0 w1 w0.heap.size (pushed (limOf n) (l.take 0)) := by
      subst hw1
      rw [show pushed (limOf n) (l.take 0) = RS.new n by simp [pushed, RS.new]]
      exact ⟨_, newRingI n w0, fun k e => by rw [e]; exact Nat.le_refl _, (Below.refl _ w0).alloc (Nat.le_refl _) _⟩
    have H1 := Lib.hid h1
    have cw1 : w1.cell? ⟨w.heap.size, 0, none⟩ = some (.slice A l.length c) := (h1.bel.cell (p := ⟨w.heap.size, 0, none⟩) HX0.out.lt).trans cx0
    clear h1 hw1 Hn hw0
    go_wp2_with fail
    go_loopw [21] (fun v21 wr => ∃ k : Nat, k ≤ l.length ∧ v21 = .int .i64 (k : Int) ∧ Hid (InI w0 wr w0.heap.size (pushed (limOf n) (l.take k)))) (fun v21 _ => l.length - (intOf v21).toNat)
    case atStart => exact ⟨0, by omega, rfl, H1⟩
    case round =>
      obtain ⟨k, hk, rfl, hr⟩ := hrel
      clear H1 cw1
      by_cases hlt : k < l.length
      · obtain ⟨R, r, hge, hB⟩ := hr.out
        obtain ⟨g, og, rfl, hg, hc⟩ := (HV.out.below hB).at_ (by omega)
        have hx : l[k]? = some (l.getD k 0) := by rw [List.getD_eq_getElem?_getD, List.getElem?_eq_getElem hlt]; rfl
        have ck := hc _ _ hx
        have Hp := Lib.hid (push_callsI wr R _ _ r (l.getD k 0))
        have HB := Lib.hid hB
        have Hnx : Hid (l.take (k + 1) = l.take k ++ [l.getD k 0]) := Lib.hid (by rw [List.take_add_one, hx]; rfl)
        have Hge := Lib.hid hge
        have hkl : (k : Int) < (l.length : Int) := by omega
        clear r hB hr hc hge hx
        generalize l.getD k 0 = x at *
        go_wp2_with fail
        refine Hp.out.mono ?_
        rintro e w3 ⟨rfl, hto⟩
        have Hn : Hid (InI w0 w3 w0.heap.size (pushed (limOf n) (l.take (k + 1)))) := Lib.hid (by
          rw [Hnx.out, ← pushed_push (limOf n) (limOf_pos n)]
          exact hto.inn Hge.out HB.out)
        clear hto Hp HB Hge
        go_wp2_with fail
        go_roundw
        case rel => exact ⟨k + 1, by omega, by go_num, Hn⟩
        case measure => simp [intOf]; omega
      · obtain rfl : k = l.length := by omega
        rw [List.take_length] at hr
        obtain ⟨st, hst⟩ : ∃ st : RS Int, pushed (limOf n) l = st := ⟨_, rfl⟩
        rw [hst] at hr
        have hstl : st.l = l.reverse.take (limOf n) := by rw [← hst]; rfl
        have hbel := hr.out.bel
        obtain ⟨m, hm⟩ : ∃ m : Nat, m = st.l.length := ⟨_, rfl⟩
        have hml : m = min l.length (limOf n) := by rw [hm, hstl, List.length_take, List.length_reverse, Nat.min_comm]
        have hmm : min (l.length : Int) (max (min n 64) 1) = (m : Int) := by rw [hml]; unfold limOf; omega
        have hle : m ≤ 64 := by have := limOf_le n; omega
        have cl : wr.cell? ⟨w.heap.size, 0, none⟩ = some (.slice A l.length c) := (hbel.cell (p := ⟨w.heap.size, 0, none⟩) HX0.out.lt).trans cx0
        have hzr := hbel.size
        have Hget : Hid (∀ j x, st.l[j]? = some x → j < m ∧ l[l.length - 1 - j]? = some x) := Lib.hid (fun j x h => by
          have hj : j < st.l.length := (List.getElem?_eq_some_iff.1 h).1
          refine ⟨by omega, ?_⟩
          rw [hstl, List.getElem?_take_of_lt (by omega), List.getElem?_reverse (by omega)] at h
          exact h)
        have Hr := Lib.hid hr.out
        have Hbel := Lib.hid hbel
        have Hm := Lib.hid hm
        clear hst hstl hr hbel hml hlt hk cx0 cx1 fx1 hm
        have Hal := Lib.hid (callsIn_wide.1 (all_inI 0 w0.heap.size (wr.alloc (.cells #[.int .i64 (m : Int)] 3))))
        go_wp2_with fail
        refine Hal.out.mono ?_
        rintro e w' ⟨rfl, rfl⟩
        clear Hal
        go_wp2_with fail
        refine (wpIn_wide (n := 4)).1 ?_
        obtain ⟨W0, hW0⟩ : ∃ W0, (wr.alloc (.cells #[.int .i64 (m : Int)] 3)).alloc (.cells #[.pointer (some ⟨w0.heap.size, 0, none⟩)] 45) = W0 := ⟨_, rfl⟩
        have x2 := (Boxed.new wr 3 (.int .i64 (m : Int))).alloc (.cells #[.pointer (some ⟨w0.heap.size, 0, none⟩)] 45)
        have x3 := Boxed.new (wr.alloc (.cells #[.int .i64 (m : Int)] 3)) 45 (.pointer (some ⟨w0.heap.size, 0, none⟩))
        simp only [World.size_alloc] at x3
        have hszW : W0.heap.size = wr.heap.size + 2 := by rw [← hW0]; simp
        have hbW : Below wr.heap.size wr W0 := by
          rw [← hW0]
          exact ((Below.refl _ wr).alloc (Nat.le_refl _) _).alloc (by simp) _
        rw [hW0] at x2 x3 ⊢
        clear hW0
        obtain ⟨R, hR, _, _⟩ := Hr.out
        have hRlt := hR.lt
        have xl : W0.cell? ⟨w.heap.size, 0, none⟩ = some (.slice A l.length c) := (hbW.cell (p := ⟨w.heap.size, 0, none⟩) (Nat.lt_of_lt_of_le HX0.out.lt hzr)).trans cl
        have xr : Boxed W0 (w.heap.size + 1) 4 (.bool false) := (hbW.block _ (Nat.lt_of_lt_of_le HX1.out.lt hzr)).trans ((Hbel.out.block _ HX1.out.lt).trans HX1.out)
        refine wpIn_rangeFunc_ownG rfl (by omega) (gf := 37) (lb := #[.pointer (some ⟨wr.heap.size + 1, 0, none⟩)]) rfl trivial (enters_of Try.func37 (by kernel_rfl) rfl)
          (all_stopsI 3 (by omega) (wr.heap.size + 1) W0.heap.size _ R w0.heap.size st (hR.below hbW) (fun k hk => by have := hRlt k hk; omega) x3) belowK_t (belowK_b (Nat.le_refl _)) (Below.refl _ _) (fun _ => rfl)
          (fun pre W => Below W0.heap.size W0 W)
          (fun c pre W => False)
          (ownFrom_below (Nat.le_refl _) (Nat.le_refl _))
          (fun c => ownFrom_pure _ _)
          (Below.refl _ _)
          (fun x => { tmps := #[.int .i64 n, .slice A l.length c, undef, .pointer (some ⟨w.heap.size, 0, none⟩), .pointer (some ⟨w.heap.size + 1, 0, none⟩), .pointer (some ⟨w0.heap.size, 0, none⟩), undef, u7, .pointer (some ⟨wr.heap.size, 0, none⟩), .int .i64 (x.1.1 : Int), .int .i64 x.1.2, .slice A l.length c, .int .i64 (l.length : Int), .bool false, undef, .int .i64 n, .pointer (some ⟨w0.heap.size, 0, none⟩), .pointer (some ⟨w0.heap.size, 0, none⟩), .bool false, .slice A l.length c, .int .i64 (l.length : Int), .int .i64 (l.length : Int), .bool false, u23, u24, u25, u26, u27, u28, .slice A l.length c, .int .i64 (l.length : Int), .int .i64 n, .int .i64 (min n 64), .int .i64 (max (min n 64) 1), .int .i64 (m : Int), .pointer (some ⟨w0.heap.size, 0, none⟩), .func (.func 37) #[] #[.pointer (some ⟨wr.heap.size + 1, 0, none⟩)], .int .i64 (x.1.1 : Int), .int .i64 x.1.2, undef, undef, undef, undef, undef, undef, undef, undef, undef, undef, undef, undef, undef, undef, undef, undef, undef, undef, undef, undef, undef, undef], defers := [] }) ?assign ?body ?done ?stop
        case assign =>
          intro l' x W K hK
          gi_wp2
          exact hK
        case body =>
          rintro l' pre x W hB hlt
          obtain ⟨hjm, hjl⟩ := Hget.out x.1.1 x.1.2 x.2
          have hjn : x.1.1 < l.length := by have := (List.getElem?_eq_some_iff.1 hjl).1; omega
          obtain ⟨g, o, rfl, hg, hc⟩ := ((((HV.out.below Hbel.out).below hbW).below hB)).at_ (by omega)
          have ck := hc _ _ hjl
          have cn : W.cell? ⟨wr.heap.size, 0, none⟩ = some (.int .i64 (m : Int)) := (hB.cell (p := ⟨wr.heap.size, 0, none⟩) x2.lt).trans x2.cell
          have cl2 : W.cell? ⟨w.heap.size, 0, none⟩ = some (.slice (some ⟨g, o, none⟩) l.length c) := (hB.cell (p := ⟨w.heap.size, 0, none⟩) (World.block_lt_of_cell? _ _ xl)).trans xl
          have hs1 : IntKind.i64.wrap ((l.length : Int) - 1) = ((l.length - 1 : Nat) : Int) := by rw [IntWalk.i64_in _ (by omega)]; omega
          have hs2 : IntKind.i64.wrap (((l.length - 1 : Nat) : Int) - (x.1.1 : Int)) = ((l.length - 1 - x.1.1 : Nat) : Int) := by rw [IntWalk.i64_in _ (by omega)]; omega
          have hge : decide ((m : Int) ≤ (x.1.1 : Int)) = false := decide_eq_false (by omega)
          have hge' : decide (m ≤ x.1.1) = false := decide_eq_false (by omega)
          have hi1 : l.length - 1 - x.1.1 < l.length := by omega
          have hi2 : ((l.length - 1 - x.1.1 : Nat) : Int) < (l.length : Int) := by omega
          have HB := Lib.hid hB
          clear hc hB hjl
          generalize l.length - 1 - x.1.1 = i at *
          generalize l.length - 1 = q at *
          gi_wp2
          exact ⟨KeepsFrom.refl _ _, Below.refl _ _, HB.out⟩
        case done =>
          rintro D ys W hD hys hB hK
          have cn : Boxed W wr.heap.size 3 (.int .i64 (m : Int)) := (hB.block _ x2.lt).trans x2
          have br : Boxed W (w.heap.size + 1) 4 (.bool false) := (hB.block _ xr.lt).trans xr
          have hH : InI w0 W w0.heap.size st := (Hr.out.below hbW).below hB
          have HH := Lib.hid hH
          have HK := Lib.hid hK
          have Hal := Lib.hid (ralive_calls W.drew)
          have Hcn := Lib.hid cn
          have Hbr := Lib.hid br
          have c0 := cn.cell
          have hzW := hB.size
          have Hx0 := Lib.hid hszW
          clear hB hK hH cn br hys
          go_wp2_with fail
          refine wp_region_noPanic ?_
          refine wp_region_held_drew (S := fun w' => w'.cell? ⟨wr.heap.size, 0, none⟩ = some (.int .i64 (m : Int))) (by kernel_rfl) c0 (fun hHeld => ?_)
          refine wpAnyH_ready (rs := [0]) (by kernel_rfl) (by simp) ?_
          refine AllReadyH.cons (o := ⟨some 54, _, _, _, _, _⟩) rfl (fun K hK => ?_) AllReadyH.nil
          (rw [if_pos (by kernel_rfl)])
          go_simp
          refine Hal.out.mono ?_
          rintro e w5 ⟨rfl, hb5⟩
          have hb5' : Below W.heap.size W w5 := ⟨hb5.os, hb5.tape, hb5.output, hb5.size, hb5.block⟩
          have cn5 : Boxed w5 wr.heap.size 3 (.int .i64 (m : Int)) := (hb5'.block _ Hcn.out.lt).trans Hcn.out
          have br5 : Boxed w5 (w.heap.size + 1) 4 (.bool false) := (hb5'.block _ Hbr.out.lt).trans Hbr.out
          have HK5 : Hid (w5.heap[D]? = some (.deferred (some []))) := Lib.hid ((hb5'.block D (Array.getElem?_eq_some_iff.1 HK.out).1).trans HK.out)
          have H5 := Lib.hid (HH.out.below hb5')
          obtain ⟨R5, hR5, _, _⟩ := H5.out
          have hlen := len_callsI w5 R5 w0.heap.size st hR5
          rw [← Hm.out] at hlen
          have Hlen := Lib.hid hlen
          have d5 := cn5.cell
          have cb5 := br5.cell
          have fb5 := br5.frozen
          have Hbr5 := Lib.hid br5
          have hz5 := Nat.lt_of_lt_of_le HX1.out.lt hzr
          have d6 : (w5.setCell ⟨w.heap.size + 1, 0, none⟩ (.bool true)).cell? ⟨wr.heap.size, 0, none⟩ = some (.int .i64 (m : Int)) := by rw [World.cell?_setCell_far _ _ _ _ (by simp; omega)]; exact d5
          refine hK.out _ _ d5 (fun hHeld => ?_)
          clear hK K
          clear hb5 hb5' cn5 br5 hR5 hlen
          refine wpAnyH_take (i := 1) (oi := ⟨some 55, _, _, _, _, _⟩) (v := ?_) rfl (by kernel_rfl) (by kernel_rfl) (by kernel_rfl) (fun _ _ _ h => h) (Or.inl ⟨by kernel_rfl, ?hy1⟩) (by assumption) ?_
          case hy1 => (intro w' hSw; (try dsimp only at hSw); go_simp; try with_reducible rfl)
          simp only [Act.put, List.setIfInBounds_toArray, List.set_cons_zero, List.set_cons_succ]
          refine wpAnyH_take (i := 2) (oi := ⟨some 56, _, _, _, _, _⟩) (v := ?_) rfl (by kernel_rfl) (by kernel_rfl) (by kernel_rfl) (fun _ _ _ h => h) (Or.inl ⟨by kernel_rfl, ?hy2⟩) (by assumption) ?_
          case hy2 => (intro w' hSw; (try dsimp only at hSw); go_simp; try with_reducible rfl)
          simp only [Act.put, List.setIfInBounds_toArray, List.set_cons_zero, List.set_cons_succ]
          refine wpAnyH_take (i := 4) (oi := ⟨some 58, _, _, _, _, _⟩) (v := ?_) rfl (by kernel_rfl) (by kernel_rfl) (by kernel_rfl) (fun _ _ _ h => h) (Or.inl ⟨by kernel_rfl, ?hy4⟩) (by assumption) ?_
          case hy4 => (intro w' hSw; (try dsimp only at hSw); go_simp; try with_reducible rfl)
          simp only [Act.put, List.setIfInBounds_toArray, List.set_cons_zero, List.set_cons_succ]
          refine wpAnyH_ready (rs := [3]) (by kernel_rfl) (by simp) ?_
          refine AllReadyH.cons (o := ⟨some 57, _, _, _, _, _⟩) rfl (fun K hK => ?_) AllReadyH.nil
          (rw [if_pos (by kernel_rfl)])
          go_simp
          refine Hlen.out.mono ?_
          rintro e w6 ⟨rfl, rfl⟩
          refine hK.out _ _ d5 (fun hHeld => ?_)
          clear hK K
          refine wpAnyH_take (i := 5) (oi := ⟨some 59, _, _, _, _, _⟩) (v := ?_) rfl (by kernel_rfl) (by kernel_rfl) (by kernel_rfl) (fun _ _ _ h => h) (Or.inl ⟨by kernel_rfl, ?hy5⟩) (by assumption) ?_
          case hy5 => (intro w' hSw; (try dsimp only at hSw); go_simp; try with_reducible rfl)
          simp only [Act.put, List.setIfInBounds_toArray, List.set_cons_zero, List.set_cons_succ]
          refine wpAnyH_take (i := 6) (oi := ⟨some 60, _, _, _, _, _⟩) (v := ?_) rfl (by kernel_rfl) (by kernel_rfl) (by kernel_rfl) (fun _ _ _ h => h) (Or.inl ⟨by kernel_rfl, ?hy6⟩) (by assumption) ?_
          case hy6 => (intro w' hSw; (try dsimp only at hSw); go_simp; try with_reducible rfl)
          simp only [Act.put, List.setIfInBounds_toArray, List.set_cons_zero, List.set_cons_succ]
          refine wpAnyH_ready (rs := [7]) (by kernel_rfl) (by simp) ?_
          refine AllReadyH.cons (o := ⟨none, _, _, _, _, _⟩) rfl (fun K hK => ?_) AllReadyH.nil
          (rw [if_pos (by kernel_rfl)])
          go_simp
          refine hK.out _ _ d6 (fun hHeld => ?_)
          clear hK K
          refine wpAnyH_done (by kernel_rfl) (NoPanic.normal ?_) _
          clear hHeld d6 d5 cb5 fb5
          go_wp2
          refine ⟨by simp, .inl ⟨_, _, rfl, run_takeDeferred ((Below.heap_setCell w5 ⟨w.heap.size + 1, 0, none⟩ _ D (by simp; omega)).trans HK5.out), ?_⟩⟩
          refine ⟨_, results_bool rfl _ _ (w.heap.size + 1) (.bool true) 4 rfl ((World.putObj_heap_other (by omega)).trans (Hbr5.out.set (.bool true))) Try.underlying4, rfl, ?_⟩
          exact ((HB0.out.trans (H5.out.bel.mono HB0.out.size)).setCell (p := ⟨w.heap.size + 1, 0, none⟩) (Nat.le_succ _) _).trans (belowK_b (w := w) (Nat.le_refl _) _ D _ _ (by have := Hz0.out; omega) ((Below.heap_setCell w5 ⟨w.heap.size + 1, 0, none⟩ _ D (by simp; omega)).trans HK5.out) rfl rfl)
        case stop =>
          rintro D c pre W hD hSp h hK
          exact h.elim
end Go.Proofs.Ytdpijbaolaignaa
