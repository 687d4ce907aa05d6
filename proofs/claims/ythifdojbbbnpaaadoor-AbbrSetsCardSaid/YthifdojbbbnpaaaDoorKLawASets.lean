/-
  AbbrSets (layer 8).
-/
import Derived.Test.YthifdojbbbnpaaaDoorPa30
namespace Go.Proofs.YthifdojbbbnpaaaDoor
open Go Go.RowKit
set_option maxRecDepth 100000

set_option maxHeartbeats 8000000 in
theorem asets_calls (A0 : Option Addr) (c0 : Nat) (os : List OpA) (k : Int) (w : World) (hO : RdA w A0 os) (hl : os.length ≤ 9223372036854775807) (hN : A0 = none → c0 = 0) (hc : os.length ≤ c0) (hcm : c0 ≤ 9223372036854775807) (hsp : Spans w) :
    Calls Tryd.prog 6 #[.slice A0 os.length c0, .int .i64 k] w fun e w' => e = .returned (.bool true) ∧ Below w.heap.size w w' := by
  have Hfew := Lib.hid (few8_calls A0 c0 os w hO hl)
  have HO := Lib.hid hO
  have HS := Lib.hid hsp
  have HNil := Lib.hid hN
  clear hO hsp hN
  by_cases hq : os.length ≤ 100 ∧ totA os ≤ 6000
  · rw [decide_eq_true hq] at Hfew
    have HQ := Lib.hid hq
    clear hq
    by_cases h16 : 16 < os.length
    · have d1 : decide ((16 : Int) < (os.length : Int)) = true := decide_eq_true (by omega)
      clear h16
      go_enter Tryd.func6, Tryd.ntmps6
      go_wp2_with fail
      refine Hfew.out.mono ?_
      rintro e w1 ⟨rfl, hb1⟩
      have HB1 := Lib.hid hb1
      clear hb1 Hfew
      go_wp2_with fail
      refine (aalive_calls w1 (spans_below HS.out HB1.out)).mono ?_
      rintro e w9 ⟨rfl, hb9⟩
      have HB9 := Lib.hid (HB1.out.trans (hb9.mono (HB1.out).size))
      clear hb9
      go_wp2_with fail
      go_ret
      exact ⟨rfl, HB9.out⟩
    · have d1 : ¬ ((16 : Int) < (os.length : Int)) := by omega
      by_cases hk0 : k < 0
      · have d2 : decide (k < 0) = true := decide_eq_true hk0
        clear hk0
        go_enter Tryd.func6, Tryd.ntmps6
        go_wp2_with fail
        refine Hfew.out.mono ?_
        rintro e w1 ⟨rfl, hb1⟩
        have HB1 := Lib.hid hb1
        clear hb1 Hfew
        go_wp2_with fail
        refine (aalive_calls w1 (spans_below HS.out HB1.out)).mono ?_
        rintro e w9 ⟨rfl, hb9⟩
        have HB9 := Lib.hid (HB1.out.trans (hb9.mono (HB1.out).size))
        clear hb9
        go_wp2_with fail
        go_ret
        exact ⟨rfl, HB9.out⟩
      · have d2 : ¬ (k < 0) := hk0
        by_cases hk1 : (os.length : Int) < k
        · have d3 : decide ((os.length : Int) < k) = true := decide_eq_true hk1
          clear hk1
          go_enter Tryd.func6, Tryd.ntmps6
          go_wp2_with fail
          refine Hfew.out.mono ?_
          rintro e w1 ⟨rfl, hb1⟩
          have HB1 := Lib.hid hb1
          clear hb1 Hfew
          go_wp2_with fail
          refine (aalive_calls w1 (spans_below HS.out HB1.out)).mono ?_
          rintro e w9 ⟨rfl, hb9⟩
          have HB9 := Lib.hid (HB1.out.trans (hb9.mono (HB1.out).size))
          clear hb9
          go_wp2_with fail
          go_ret
          exact ⟨rfl, HB9.out⟩
        · have d3 : ¬ ((os.length : Int) < k) := hk1
          obtain ⟨kn, rfl⟩ := Int.eq_ofNat_of_zero_le (show 0 ≤ k by omega)
          have hkn : kn ≤ os.length := by omega
          have d3n : ¬ (os.length < kn) := by omega
          have d3m : decide (os.length < kn) = false := decide_eq_false d3n
          clear hk0 hk1 h16
          go_enter Tryd.func6, Tryd.ntmps6
          go_wp2_with fail
          refine Hfew.out.mono ?_
          rintro e w1 ⟨rfl, hb1⟩
          have HB1 := Lib.hid hb1
          clear hb1 Hfew
          have HX4 := Lib.hid (TwT.start (w0 := w) (w := w1) HB1.out)
          have hb4 : Below ((w1.alloc (.cells #[.map none] 27)).alloc (.cells #[.map none] 27)).heap.size ((w1.alloc (.cells #[.map none] 27)).alloc (.cells #[.map none] 27)) (((w1.alloc (.cells #[.map none] 27)).alloc (.cells #[.map none] 27)).alloc (.map #[] 0)) := (Below.refl _ _).alloc (Nat.le_refl _) _
          have hs2 : ((w1.alloc (.cells #[.map none] 27)).alloc (.cells #[.map none] 27)).heap.size = w1.heap.size + 1 + 1 := by rw [World.size_alloc, World.size_alloc]
          have hx4 := (HX4.out.add (Y := (fun i => i = w1.heap.size + 1 + 1)) hb4 (fun i (hi : i = _) => ⟨by omega, by rw [World.size_alloc]; omega⟩)).out (Y := (fun i => i = w1.heap.size + 1 + 1)) (fun i hi => .inr hi)
          have hm4 := MapAt.new (V := (Value.int .i64 : Int → Value)) ((w1.alloc (.cells #[.map none] 27)).alloc (.cells #[.map none] 27))
          rw [hs2] at hm4
          have hmm := @run_makeMap Tryd.prog
          obtain ⟨W4, hW4⟩ : ∃ W4, ((w1.alloc (.cells #[.map none] 27)).alloc (.cells #[.map none] 27)).alloc (.map #[] 0) = W4 := ⟨_, rfl⟩
          rw [hW4] at hx4 hm4
          have HT4 := Lib.hid hx4
          have HM4 := Lib.hid hm4
          clear hx4 hm4 hb4 HX4 hs2
          go_wp2_with fail
          clear hW4 hmm
          go_loopw [41] (fun v41 wr => ∃ j : Nat, j ≤ os.length ∧ v41 = .int .i64 (j : Int) ∧ Hid (TwT w wr (fun i => i = w1.heap.size + 1 + 1) w1.heap.size (setsA OpA.n OpA.t [] (os.take j)) (w1.heap.size + 1) []) ∧ Hid (MapAt (Value.int .i64) wr (w1.heap.size + 1 + 1) ((os.take j).map fun o => (o.n, (1 : Int)))) ∧ Hid ((os.take j).map OpA.n).Nodup) (fun v41 _ => os.length - (intOf v41).toNat)
          case atStart => exact ⟨0, Nat.zero_le _, rfl, HT4, HM4, Lib.hid (by simp)⟩
          case round =>
            obtain ⟨j, hj, rfl, hT, hM, hD⟩ := hrel
            clear HT4 HM4
            by_cases hlt : j < os.length
            · obtain ⟨g, og, rfl, hg, e0, e1, e2, _, _⟩ := (HO.out.below hT.out.bel).at_ hlt
              have Hsz : Hid ((os.getD j OpA.none_).n.size ≤ 100000 ∧ (os.getD j OpA.none_).t.size ≤ 100000) := Lib.hid (by
                have h1 := totA_at hlt
                have h2 := HQ.out.2
                unfold OpA.len at h1
                omega)
              have htk : os.take (j + 1) = os.take j ++ [os.getD j OpA.none_] := by
                rw [List.take_succ_eq_append_getElem hlt, List.getD_eq_getElem?_getD, List.getElem?_eq_getElem hlt]
                rfl
              have hbl : Below wr.heap.size wr (wr.alloc (.cells #[.int .i64 (os.getD j OpA.none_).k, .string (os.getD j OpA.none_).n, .string (os.getD j OpA.none_).t] 30)) := (Below.refl _ wr).alloc (Nat.le_refl _) _
              have hx5 := hT.out.below hbl
              have hm5 := hM.out.below hbl
              have hn5 := BxA.new wr 30 [.int .i64 (os.getD j OpA.none_).k, .string (os.getD j OpA.none_).n, .string (os.getD j OpA.none_).t]
              have hMlt : w1.heap.size + 1 + 1 < wr.heap.size := hM.out.lt
              have m1 := hn5.c 1 rfl
              have hkl : (j : Int) < (os.length : Int) := by omega
              have hgp : (getP ((os.take j).map fun o => (o.n, (1 : Int))) (os.getD j OpA.none_).n = some 1 ∧ True) ∨ (getP ((os.take j).map fun o => (o.n, (1 : Int))) (os.getD j OpA.none_).n = none ∧ (os.getD j OpA.none_).n ∉ (os.take j).map OpA.n) := by
                cases hgp : getP ((os.take j).map fun o => (o.n, (1 : Int))) (os.getD j OpA.none_).n with
                | some z =>
                  left
                  refine ⟨?_, trivial⟩
                  unfold getP at hgp
                  cases hf : findP (os.getD j OpA.none_).n ((os.take j).map fun o => (o.n, (1 : Int))) 0 with
                  | none => rw [hf] at hgp; cases hgp
                  | some y =>
                    obtain ⟨i, u⟩ := y
                    rw [hf] at hgp
                    injection hgp with hgp
                    obtain ⟨_, hi⟩ := findP_at _ _ _ _ _ hf
                    rw [Nat.sub_zero] at hi
                    have hu : u = 1 := by
                      rw [List.getElem?_map] at hi
                      cases hq : (os.take j)[i]? with
                      | none => rw [hq] at hi; cases hi
                      | some q => rw [hq] at hi; injection hi with hi; injection hi with _ hi; exact hi.symm
                    rw [← hgp]
                    exact congrArg some hu
                | none =>
                  right
                  refine ⟨rfl, fun hin => ?_⟩
                  obtain ⟨q, hq, hqn⟩ := List.mem_map.1 hin
                  exact getP_none.1 hgp (q.n, 1) (List.mem_map.2 ⟨q, hq, rfl⟩) hqn
              have HTK := Lib.hid htk
              clear htk hbl
              generalize os.getD j OpA.none_ = o at *
              have HX5 := Lib.hid hx5
              have HN5 := Lib.hid hn5
              rcases hgp with ⟨hgp, _⟩ | ⟨hgp, hnin⟩
              · have hl5 := run_lookS (P := Tryd.prog) Tryd.underlying52 Tryd.underlying9 hm5 o.n 1 hgp false
                simp only [Bool.false_eq_true, if_false] at hl5
                clear hT hM hx5 hm5 hn5 hgp
                go_wp2_with fail
                refine (aalive_calls _ (spans_below HS.out HX5.out.bel)).mono ?_
                rintro e w9 ⟨rfl, hb9⟩
                have HB9 := Lib.hid (HX5.out.bel.trans (hb9.mono HX5.out.bel.size))
                clear hb9
                go_wp2_with fail
                go_ret
                exact ⟨rfl, HB9.out⟩
              · have hz := Tryd.zeroValue3 (wr.alloc (.cells #[.int .i64 o.k, .string o.n, .string o.t] 30))
                have hl5 := run_lookS_none (P := Tryd.prog) Tryd.underlying52 Tryd.underlying9 hm5 o.n hgp _ hz false
                simp only [Bool.false_eq_true, if_false] at hl5
                obtain ⟨w6, r6, hm6, ho6⟩ := run_putS (P := Tryd.prog) Tryd.underlying52 Tryd.underlying9 hm5 o.n (1 : Int)
                have hx6 := hx5.store (M := w1.heap.size + 1 + 1) rfl ho6
                have hn6 := hn5.keep ho6 (fun (e : wr.heap.size = w1.heap.size + 1 + 1) => by omega)
                have hput : putP ((os.take j).map fun o => (o.n, (1 : Int))) o.n (1 : Int) = ((os.take (j + 1)).map fun o => (o.n, (1 : Int))) := by
                  rw [HTK.out, List.map_append]
                  unfold putP
                  cases hf : findP o.n ((os.take j).map fun o => (o.n, (1 : Int))) 0 with
                  | none => rfl
                  | some y => unfold getP at hgp; rw [hf] at hgp; cases hgp
                rw [hput] at hm6
                have k1 := hn6.c 1 rfl
                have k2 := hn6.c 2 rfl
                have HX6 := Lib.hid hx6
                have HM6 := Lib.hid hm6
                have HD6 : Hid ((os.take (j + 1)).map OpA.n).Nodup := Lib.hid (by
                  rw [HTK.out, List.map_append, List.map_singleton]
                  refine List.nodup_append.2 ⟨hD.out, by simp, fun a ha b hb => ?_⟩
                  rw [List.mem_singleton] at hb
                  rw [hb]
                  exact fun e => hnin (by rw [← e]; exact ha))
                have HSt : Hid (setsA OpA.n OpA.t [] (os.take (j + 1)) = (setR (setsA OpA.n OpA.t [] (os.take j)) o.n o.t).1) := Lib.hid (by rw [HTK.out, setsA_step])
                clear hT hM hx5 hm5 hn5 hgp hnin hz hx6 hn6 hm6 hput ho6 hD
                go_wp2_with fail
                refine (HX6.out.turn (P := Tryd.prog) (f := 13) (args := #[.pointer (some ⟨w1.heap.size, 0, none⟩), .string o.n, .string o.t]) (E := fun e => e = .returned (.int .i64 (setR (setsA OpA.n OpA.t [] (os.take j)) o.n o.t).2)) (l' := (setR (setsA OpA.n OpA.t [] (os.take j)) o.n o.t).1) (fun O hO => tset_calls _ O _ _ hO o.n o.t (by have := Hsz.out.1; omega) (by have := Hsz.out.2; omega))).mono ?_
                rintro e w7 ⟨rfl, hx7, ho7⟩
                have hm7 := HM6.out.keep ho7 (fun hn => hn rfl)
                rw [← HSt.out] at hx7
                have HX7 := Lib.hid hx7
                have HM7 := Lib.hid hm7
                clear hx7 hm7 ho7 HX6 HM6 k1 k2 hl5 r6
                go_wp2_with fail
                go_roundw
                case rel => exact ⟨j + 1, by omega, by go_num, HX7, HM7, HD6⟩
                case measure => simp [intOf]; omega
            · obtain rfl : j = os.length := by omega
              rw [List.take_length] at hT hD
              clear hlt hj
              have hkc : kn ≤ c0 := by omega
              have hro := rowT_of_rdA (HO.out.below hT.out.bel)
              have hdl : (os.drop kn).length = os.length - kn := List.length_drop
              have htl : (os.take kn).length = kn := by rw [List.length_take]; omega
              have hsum : os.length - kn + kn = os.length := by omega
              have HSum := Lib.hid hsum
              obtain ⟨rs, hrs⟩ : ∃ rs, rs = os.drop kn ++ os.take kn := ⟨_, rfl⟩
              have hrl : rs.length = os.length := by rw [hrs, List.length_append, hdl, htl, hsum]
              have HTot : Hid (∀ i, i < rs.length → (rs.getD i OpA.none_).n.size ≤ 100000 ∧ (rs.getD i OpA.none_).t.size ≤ 100000) := Lib.hid (fun i hi => by
                have hin : rs.getD i OpA.none_ ∈ os := by
                  have h1 : rs.getD i OpA.none_ ∈ rs := by
                    rw [List.getD_eq_getElem?_getD, List.getElem?_eq_getElem hi]
                    exact List.getElem_mem hi
                  have h3 : rs.getD i OpA.none_ ∈ os.drop kn ++ os.take kn := by rw [← hrs]; exact h1
                  rcases List.mem_append.1 h3 with h1 | h1
                  · exact List.mem_of_mem_drop h1
                  · exact List.mem_of_mem_take h1
                obtain ⟨q, hq, hqe⟩ := List.getElem_of_mem hin
                have h1 := totA_at hq
                have h2 := HQ.out.2
                rw [List.getD_eq_getElem?_getD, List.getElem?_eq_getElem hq] at h1
                unfold OpA.len at h1
                rw [← hqe]
                change os[q].n.size + os[q].t.size ≤ _ at h1
                omega)
              have hst : setsA OpA.n OpA.t [] os = setsA OpA.n OpA.t [] rs := by rw [hrs]; exact sets_turn OpA.n OpA.t os kn (by omega) hD.out
              rw [hst] at hT
              have hl16 : (setsA OpA.n OpA.t [] rs).length ≤ 16 := by
                obtain ⟨_, _, h, _⟩ := hT.out
                exact h.len
              have HRs := Lib.hid hrs
              have HSame : Hid (True) := Lib.hid trivial
              clear hst
              rcases A0 with _ | a
              case' none =>
                have hc00 := HNil.out rfl
                subst hc00
                have hon : os = [] := List.eq_nil_of_length_eq_zero (by omega)
                subst hon
                have hkn0 : kn = 0 := by simpa using hkn
                subst hkn0
                obtain ⟨A4, c4, W6, A8, c8, W7, r4, r8, hrow, hb7⟩ := turned wr none none 0 0 (([] : List OpA).drop 0) (([] : List OpA).take 0) (R := fun _ => True) (R' := fun _ => True) (fun hn => absurd hn (by decide)) (fun _ => rfl) (fun hn => absurd hn (by decide)) (fun _ => rfl) (by decide)
              case' some =>
                have hck := Nat.eq_or_lt_of_le hkc
                rcases hck with hck | hck
              case' some.inl =>
                have hko : kn = os.length := by omega
                subst hko
                subst hck
                rw [Nat.sub_self] at hdl hsum
                obtain ⟨A4, c4, W6, A8, c8, W7, r4, r8, hrow, hb7⟩ := turned wr (some a) (some a) 0 os.length (os.drop os.length) (os.take os.length) (R := fun _ => True) (fun hn => by rw [hdl] at hn; omega) (fun e => by cases e) (hro.take opC_length os.length) (fun e => by cases e) (by rw [hdl, htl]; omega)
              case' some.inr =>
                have hne : ¬ c0 = kn := by omega
                obtain ⟨A4, c4, W6, A8, c8, W7, r4, r8, hrow, hb7⟩ := turned wr (some (a.add (kn * 3))) (some a) (c0 - kn) c0 (os.drop kn) (os.take kn) (R := fun _ => True) (fun hn => by
                  rw [hdl] at hn
                  obtain ⟨g, o, e, _⟩ := hro (by omega)
                  injection e with e
                  subst e
                  have := hro.drop opC_length kn (by rw [hdl]; exact hn)
                  rw [Addr.add_lit]
                  exact this) (fun e => by cases e) (hro.take opC_length kn) (fun e => by cases e) (by rw [hdl, htl]; omega)
              all_goals
                rw [hdl, htl, hsum] at r8
                rw [hdl] at r4
                rw [← HRs.out] at hrow
                have HRl := Lib.hid hrl
                have Hr4 := Lib.hid r4
                have Hr8 := Lib.hid r8
                obtain ⟨n0, hn0⟩ : ∃ n0, n0 = wr.heap.size := ⟨_, rfl⟩
                rw [← hn0] at hrow
                have HX0 := (hT.out.add (Y := fun i => wr.heap.size ≤ i ∧ i < W7.heap.size) hb7 (fun i hi => hi)).out (Y := fun i => wr.heap.size ≤ i ∧ i < W7.heap.size) (fun i hi => .inr hi)
                rw [← hn0] at HX0
                have HX := Lib.hid HX0
                have HRow := Lib.hid hrow
                clear hT hM hD hro hdl htl hsum hrow hb7 hrl r4 r8 HX0 hn0
                go_upto_region 13 with fail
                refine wp_region_held_drew (S := (fun _ => True)) (by kernel_rfl) trivial (fun hHeld => ?_)
                refine wpAnyH_take (i := 1) (oi := ⟨some 61, _, _, _, _, _⟩) (v := ?_) rfl (by kernel_rfl) (by kernel_rfl) (by kernel_rfl) (fun _ _ _ h => h) (Or.inl ⟨by kernel_rfl, ?hy1⟩) (by assumption) ?_
                case hy1 => (intro w' hSw; (try dsimp only at hSw); first | (go_simp; try with_reducible rfl) | rfl)
                simp only [Act.put, List.setIfInBounds_toArray, List.set_cons_zero, List.set_cons_succ]
                refine wpAnyH_take (i := 2) (oi := ⟨some 62, _, _, _, _, _⟩) (v := ?_) rfl (by kernel_rfl) (by kernel_rfl) (by kernel_rfl) (fun _ _ _ h => h) (Or.inl ⟨by kernel_rfl, ?hy2⟩) (by assumption) ?_
                case hy2 => (intro w' hSw; (try dsimp only at hSw); first | (go_simp; try with_reducible rfl) | rfl)
                simp only [Act.put, List.setIfInBounds_toArray, List.set_cons_zero, List.set_cons_succ]
                refine wpAnyH_take (i := 3) (oi := ⟨some 63, _, _, _, _, _⟩) (v := ?_) rfl (by kernel_rfl) (by kernel_rfl) (by kernel_rfl) (fun _ _ _ h => h) (Or.inl ⟨by kernel_rfl, ?hy3⟩) (by assumption) ?_
                case hy3 => (intro w' hSw; (try dsimp only at hSw); first | (go_simp; try with_reducible rfl) | rfl)
                simp only [Act.put, List.setIfInBounds_toArray, List.set_cons_zero, List.set_cons_succ]
                refine wpAnyH_take (i := 5) (oi := ⟨some 65, _, _, _, _, _⟩) (v := ?_) rfl (by kernel_rfl) (by kernel_rfl) (by kernel_rfl) (fun _ _ _ h => h) (Or.inl ⟨by kernel_rfl, ?hy5⟩) (by assumption) ?_
                case hy5 => (intro w' hSw; (try dsimp only at hSw); first | (go_simp; try with_reducible rfl) | rfl)
                simp only [Act.put, List.setIfInBounds_toArray, List.set_cons_zero, List.set_cons_succ]
                refine wpAnyH_take (i := 6) (oi := ⟨some 66, _, _, _, _, _⟩) (v := ?_) rfl (by kernel_rfl) (by kernel_rfl) (by kernel_rfl) (fun _ _ _ h => h) (Or.inl ⟨by kernel_rfl, ?hy6⟩) (by assumption) ?_
                case hy6 => (intro w' hSw; (try dsimp only at hSw); first | (go_simp; try with_reducible rfl) | rfl)
                simp only [Act.put, List.setIfInBounds_toArray, List.set_cons_zero, List.set_cons_succ]
                refine wpAnyH_take (i := 7) (oi := ⟨some 67, _, _, _, _, _⟩) (v := ?_) rfl (by kernel_rfl) (by kernel_rfl) (by kernel_rfl) (fun _ _ _ h => h) (Or.inl ⟨by kernel_rfl, ?hy7⟩) (by assumption) ?_
                case hy7 => (intro w' hSw; (try dsimp only at hSw); first | (go_simp; try with_reducible rfl) | rfl)
                simp only [Act.put, List.setIfInBounds_toArray, List.set_cons_zero, List.set_cons_succ]
                refine wpAnyH_take (i := 10) (oi := ⟨some 70, _, _, _, _, _⟩) (v := ?_) rfl (by kernel_rfl) (by kernel_rfl) (by kernel_rfl) (fun _ _ _ h => h) (Or.inl ⟨by kernel_rfl, ?hy10⟩) (by assumption) ?_
                case hy10 => (intro w' hSw; (try dsimp only at hSw); first | (go_simp; try with_reducible rfl) | rfl)
                simp only [Act.put, List.setIfInBounds_toArray, List.set_cons_zero, List.set_cons_succ]
                refine wpAnyH_ready (rs := [0]) (by kernel_rfl) (by simp) ?_
                refine AllReadyH.cons (o := ⟨some 60, _, _, _, _, _⟩) rfl (fun K hK => ?_) AllReadyH.nil
                (rw [if_pos (by kernel_rfl)])
                go_simp
                refine hK.out _ _ trivial (fun hHeld => ?_)
                clear hK K
                refine wpAnyH_ready (rs := [4]) (by kernel_rfl) (by simp) ?_
                refine AllReadyH.cons (o := ⟨some 64, _, _, _, _, _⟩) rfl (fun K hK => ?_) AllReadyH.nil
                refine step_append_g (by kernel_rfl) (.tmp 60) (.tmp 63) 22 rfl _ _ rfl rfl Hr4.out ?_
                refine hK.out _ _ trivial (fun hHeld => ?_)
                clear hK K
                refine wpAnyH_ready (rs := [8]) (by kernel_rfl) (by simp) ?_
                refine AllReadyH.cons (o := ⟨some 68, _, _, _, _, _⟩) rfl (fun K hK => ?_) AllReadyH.nil
                refine step_append_g (by kernel_rfl) (.tmp 64) (.tmp 67) 22 rfl _ _ rfl rfl Hr8.out ?_
                refine hK.out _ _ trivial (fun hHeld => ?_)
                clear hK K
                refine wpAnyH_take (i := 9) (oi := ⟨some 69, _, _, _, _, _⟩) (v := ?_) rfl (by kernel_rfl) (by kernel_rfl) (by kernel_rfl) (fun _ _ _ h => h) (Or.inl ⟨by kernel_rfl, ?hy9⟩) (by assumption) ?_
                case hy9 => (intro w' hSw; (try dsimp only at hSw); first | (go_simp; try with_reducible rfl) | rfl)
                simp only [Act.put, List.setIfInBounds_toArray, List.set_cons_zero, List.set_cons_succ]
                refine wpAnyH_done (by kernel_rfl) ?_ _
                have hrlen := HRl.out
                clear hrs HRl Hr4 Hr8
                go_wp2_with fail
                go_loopw [70] (fun v70 wr => ∃ j : Nat, j ≤ rs.length ∧ v70 = .int .i64 (j : Int) ∧ Hid (TwT w wr (fun i => n0 ≤ i ∧ i < W7.heap.size) w1.heap.size (setsA OpA.n OpA.t [] rs) (w1.heap.size + 1) (setsA OpA.n OpA.t [] (rs.take j))) ∧ Hid (RowT opC wr (fun i => n0 ≤ i ∧ i < W7.heap.size) A8 rs)) (fun v70 _ => rs.length - (intOf v70).toNat)
                case atStart => exact ⟨0, Nat.zero_le _, rfl, HX, HRow⟩
                case round =>
                  obtain ⟨j, hj, rfl, hT, hR⟩ := hrel
                  clear HX HRow
                  by_cases hlt : j < rs.length
                  · obtain ⟨g, o8, rfl, hRg, hg, hcx⟩ := hR.out (by omega)
                    have ho : rs[j]? = some (rs.getD j OpA.none_) := by rw [List.getD_eq_getElem?_getD, List.getElem?_eq_getElem hlt]; rfl
                    have htk : rs.take (j + 1) = rs.take j ++ [rs.getD j OpA.none_] := by
                      rw [List.take_succ_eq_append_getElem hlt, List.getD_eq_getElem?_getD, List.getElem?_eq_getElem hlt]
                      rfl
                    have Hsz := Lib.hid (HTot.out j hlt)
                    generalize rs.getD j OpA.none_ = o at *
                    have e0 := hcx _ _ (flat_get opC_length ho (j := 0) rfl)
                    have e1 := hcx _ _ (flat_get opC_length ho (j := 1) rfl)
                    have e2 := hcx _ _ (flat_get opC_length ho (j := 2) rfl)
                    rw [Nat.add_zero] at e0
                    rw [← Nat.add_assoc] at e1 e2
                    have hbl : Below wr.heap.size wr (wr.alloc (.cells #[.int .i64 o.k, .string o.n, .string o.t] 30)) := (Below.refl _ wr).alloc (Nat.le_refl _) _
                    have HX5 := Lib.hid (hT.out.below hbl)
                    have HR5 := Lib.hid (hR.out.below hbl)
                    have hn5 := BxA.new wr 30 [.int .i64 o.k, .string o.n, .string o.t]
                    have m1 := hn5.c 1 rfl
                    have m2 := hn5.c 2 rfl
                    have HSt : Hid (setsA OpA.n OpA.t [] (rs.take (j + 1)) = (setR (setsA OpA.n OpA.t [] (rs.take j)) o.n o.t).1) := Lib.hid (by rw [htk, setsA_step])
                    have hkl : (j : Int) < (rs.length : Int) := by omega
                    clear hT hR hcx ho htk hbl hn5
                    go_wp2_with fail
                    all_goals
                      refine (HX5.out.swap.turn (P := Tryd.prog) (f := 13) (args := #[.pointer (some ⟨w1.heap.size + 1, 0, none⟩), .string o.n, .string o.t]) (E := fun e => e = .returned (.int .i64 (setR (setsA OpA.n OpA.t [] (rs.take j)) o.n o.t).2)) (l' := (setR (setsA OpA.n OpA.t [] (rs.take j)) o.n o.t).1) (fun O hO => tset_calls _ O _ _ hO o.n o.t (by have := Hsz.out.1; omega) (by have := Hsz.out.2; omega))).mono ?_
                      rintro e w7b ⟨rfl, hx7, ho7⟩
                      have HR7 := Lib.hid (HR5.out.keep ho7 (fun i hi hn => hn hi))
                      rw [← HSt.out] at hx7
                      have HX7 := Lib.hid hx7.swap
                      clear hx7 ho7 HX5 HR5 m1 m2 e0 e1 e2
                      go_wp2_with fail
                      go_roundw
                      case rel => exact ⟨j + 1, by omega, by go_num, HX7, HR7⟩
                      case measure => simp [intOf]; omega
                  · obtain rfl : j = rs.length := by omega
                    rw [List.take_length] at hT
                    clear hlt hj hR HTot
                    generalize setsA OpA.n OpA.t [] rs = LA at *
                    go_wp2_with fail
                    refine (hT.out.rd (E := fun e w' => ∃ A c, e = .returned (.slice A LA.length c) ∧ RdV Value.string w' A (LA.map Prod.fst)) (fun O hO => (tnames_calls _ O _ LA hO).mono (fun e w' hh => by
                      obtain ⟨A, c, e1, e2, e3⟩ := hh
                      exact ⟨⟨A, c, e1, e2⟩, e3⟩))).mono ?_
                    rintro e w10 ⟨⟨Ax, cx, rfl, hrx⟩, hx10, hb10⟩
                    have HRx := Lib.hid hrx
                    have HX10 := Lib.hid hx10
                    clear hrx hx10 hb10 hT
                    go_wp2_with fail
                    refine (HX10.out.swap.rd (E := fun e w' => ∃ A c, e = .returned (.slice A LA.length c) ∧ RdV Value.string w' A (LA.map Prod.fst)) (fun O hO => (tnames_calls _ O _ LA hO).mono (fun e w' hh => by
                      obtain ⟨A, c, e1, e2, e3⟩ := hh
                      exact ⟨⟨A, c, e1, e2⟩, e3⟩))).mono ?_
                    rintro e w11 ⟨⟨Ay, cy, rfl, hry⟩, hx11, hb11⟩
                    have HRx2 := Lib.hid (HRx.out.below hb11)
                    have HRy := Lib.hid hry
                    have HX11 := Lib.hid hx11.swap
                    have hlen16 : LA.length ≤ 16 := by
                      obtain ⟨O, _, h1, _⟩ := hx11
                      exact h1.len
                    have q0 : ((LA.length : Int) != (LA.length : Int)) = false := bne_self_eq_false _
                    clear hry hx11 hb11 HX10 HRx
                    go_wp2_with fail
                    go_loopw [89] (fun v89 wr => ∃ j : Nat, j ≤ LA.length ∧ v89 = .int .i64 (j : Int) ∧ Hid (TwT w wr (fun i => n0 ≤ i ∧ i < W7.heap.size) w1.heap.size LA (w1.heap.size + 1) LA) ∧ Hid (RdV Value.string wr Ax (LA.map Prod.fst)) ∧ Hid (RdV Value.string wr Ay (LA.map Prod.fst))) (fun v89 _ => LA.length - (intOf v89).toNat)
                    case atStart => exact ⟨0, Nat.zero_le _, rfl, HX11, HRx2, HRy⟩
                    case round =>
                      obtain ⟨j, hj, rfl, hT, hRx, hRy⟩ := hrel
                      clear HX11 HRx2 HRy
                      by_cases hlt : j < LA.length
                      · obtain ⟨gx, ox, rfl, hgx, hcx⟩ := hRx.out (by rw [List.length_map]; omega)
                        obtain ⟨gy, oy, rfl, hgy, hcy⟩ := hRy.out (by rw [List.length_map]; omega)
                        have hmap : (LA.map Prod.fst)[j]? = some LA[j].1 := by rw [List.getElem?_map, List.getElem?_eq_getElem hlt]; rfl
                        have cx0 := hcx j _ hmap
                        have cy0 := hcy j _ hmap
                        have HK : Hid (∀ W, Below wr.heap.size wr W → W.cell? ⟨gx, ox + j, none⟩ = some (.string LA[j].1) ∧ W.cell? ⟨gy, oy + j, none⟩ = some (.string LA[j].1)) := Lib.hid (fun W hW => ⟨(hW.cell (p := ⟨gx, ox + j, none⟩) hgx).trans cx0, (hW.cell (p := ⟨gy, oy + j, none⟩) hgy).trans cy0⟩)
                        generalize LA[j].1 = nm at *
                        have hkl : (j : Int) < (LA.length : Int) := by omega
                        clear hcx hcy hmap
                        have HGp := Lib.hid (rfl : getP LA nm = getP LA nm)
                        go_wp2_with fail
                        refine (hT.out.rd (fun O hO => tget_calls wr O _ LA hO nm)).mono ?_
                        rintro e w12 ⟨rfl, hx12, hb12⟩
                        have hk12 := HK.out w12 hb12
                        have HB12 := Lib.hid hb12
                        have HX12 := Lib.hid hx12
                        have cx1 := hk12.1
                        have cy1 := hk12.2
                        clear cx0 cy0 hb12 hx12 hk12
                        go_wp2_with fail
                        refine (HX12.out.swap.rd (fun O hO => tget_calls w12 O _ LA hO nm)).mono ?_
                        rintro e w13 ⟨rfl, hx13, hb13⟩
                        have HB13 := Lib.hid (HB12.out.trans (hb13.mono HB12.out.size))
                        have hk13 := HK.out w13 HB13.out
                        have HX13 := Lib.hid hx13.swap
                        have cx2 := hk13.1
                        have cy2 := hk13.2
                        clear cx1 cy1 hb13 hx13 hk13 HGp
                        generalize (getP LA nm).getD ⟨#[]⟩ = va at *
                        generalize (getP LA nm).isSome = vb at *
                        have p1 : (nm.toList != nm.toList) = false := bne_self_eq_false _
                        have p2 : (va.toList != va.toList) = false := bne_self_eq_false _
                        go_upto_region 26 with fail
                        refine wp_region_held_drew (S := (fun w' => w'.cell? ⟨gx, ox + j, none⟩ = some (.string nm) ∧ w'.cell? ⟨gy, oy + j, none⟩ = some (.string nm))) (by kernel_rfl) ⟨cx2, cy2⟩ (fun hHeld => ?_)
                        refine wpAnyH_take (i := 0) (oi := ⟨some 108, _, _, _, _, _⟩) (v := ?_) rfl (by kernel_rfl) (by kernel_rfl) (by kernel_rfl) (fun _ _ _ h => h) (Or.inl ⟨by kernel_rfl, ?hy0⟩) (by assumption) ?_
                        case hy0 => (intro w' hSw; (try dsimp only at hSw); go_simp; try with_reducible rfl)
                        simp only [Act.put, List.setIfInBounds_toArray, List.set_cons_zero, List.set_cons_succ]
                        refine wpAnyH_take (i := 1) (oi := ⟨some 109, _, _, _, _, _⟩) (v := ?_) rfl (by kernel_rfl) (by kernel_rfl) (by kernel_rfl) (fun _ _ _ h => h) (Or.inl ⟨by kernel_rfl, ?hy1⟩) (by assumption) ?_
                        case hy1 => (intro w' hSw; (try dsimp only at hSw); go_simp; try with_reducible rfl)
                        simp only [Act.put, List.setIfInBounds_toArray, List.set_cons_zero, List.set_cons_succ]
                        refine wpAnyH_take (i := 2) (oi := ⟨some 110, _, _, _, _, _⟩) (v := ?_) rfl (by kernel_rfl) (by kernel_rfl) (by kernel_rfl) (fun _ _ _ h => h) (Or.inl ⟨by kernel_rfl, ?hy2⟩) (by assumption) ?_
                        case hy2 => (intro w' hSw; (try dsimp only at hSw); go_simp; try with_reducible rfl)
                        simp only [Act.put, List.setIfInBounds_toArray, List.set_cons_zero, List.set_cons_succ]
                        refine wpAnyH_take (i := 3) (oi := ⟨some 111, _, _, _, _, _⟩) (v := ?_) rfl (by kernel_rfl) (by kernel_rfl) (by kernel_rfl) (fun _ _ _ h => h) (Or.inl ⟨by kernel_rfl, ?hy3⟩) (by assumption) ?_
                        case hy3 => (intro w' hSw; (try dsimp only at hSw); go_simp; try with_reducible rfl)
                        simp only [Act.put, List.setIfInBounds_toArray, List.set_cons_zero, List.set_cons_succ]
                        refine wpAnyH_take (i := 4) (oi := ⟨some 112, _, _, _, _, _⟩) (v := ?_) rfl (by kernel_rfl) (by kernel_rfl) (by kernel_rfl) (fun _ _ _ h => h) (Or.inl ⟨by kernel_rfl, ?hy4⟩) (by assumption) ?_
                        case hy4 => (intro w' hSw; (try dsimp only at hSw); go_simp; try with_reducible rfl)
                        simp only [Act.put, List.setIfInBounds_toArray, List.set_cons_zero, List.set_cons_succ]
                        refine wpAnyH_take (i := 5) (oi := ⟨some 113, _, _, _, _, _⟩) (v := ?_) rfl (by kernel_rfl) (by kernel_rfl) (by kernel_rfl) (fun _ _ _ h => h) (Or.inl ⟨by kernel_rfl, ?hy5⟩) (by assumption) ?_
                        case hy5 => (intro w' hSw; (try dsimp only at hSw); go_simp; try with_reducible rfl)
                        simp only [Act.put, List.setIfInBounds_toArray, List.set_cons_zero, List.set_cons_succ]
                        refine wpAnyH_take (i := 6) (oi := ⟨some 114, _, _, _, _, _⟩) (v := ?_) rfl (by kernel_rfl) (by kernel_rfl) (by kernel_rfl) (fun _ _ _ h => h) (Or.inl ⟨by kernel_rfl, ?hy6⟩) (by assumption) ?_
                        case hy6 => (intro w' hSw; (try dsimp only at hSw); go_simp; try with_reducible rfl)
                        simp only [Act.put, List.setIfInBounds_toArray, List.set_cons_zero, List.set_cons_succ]
                        refine wpAnyH_take (i := 7) (oi := ⟨some 115, _, _, _, _, _⟩) (v := ?_) rfl (by kernel_rfl) (by kernel_rfl) (by kernel_rfl) (fun _ _ _ h => h) (Or.inl ⟨by kernel_rfl, ?hy7⟩) (by assumption) ?_
                        case hy7 => (intro w' hSw; (try dsimp only at hSw); go_simp; try with_reducible rfl)
                        simp only [Act.put, List.setIfInBounds_toArray, List.set_cons_zero, List.set_cons_succ]
                        refine wpAnyH_take (i := 8) (oi := ⟨some 116, _, _, _, _, _⟩) (v := ?_) rfl (by kernel_rfl) (by kernel_rfl) (by kernel_rfl) (fun _ _ _ h => h) (Or.inl ⟨by kernel_rfl, ?hy8⟩) (by assumption) ?_
                        case hy8 => (intro w' hSw; (try dsimp only at hSw); go_simp; try with_reducible rfl)
                        simp only [Act.put, List.setIfInBounds_toArray, List.set_cons_zero, List.set_cons_succ]
                        refine wpAnyH_take (i := 9) (oi := ⟨some 117, _, _, _, _, _⟩) (v := ?_) rfl (by kernel_rfl) (by kernel_rfl) (by kernel_rfl) (fun _ _ _ h => h) (Or.inl ⟨by kernel_rfl, ?hy9⟩) (by assumption) ?_
                        case hy9 => (intro w' hSw; (try dsimp only at hSw); go_simp; try with_reducible rfl)
                        simp only [Act.put, List.setIfInBounds_toArray, List.set_cons_zero, List.set_cons_succ]
                        refine wpAnyH_take (i := 10) (oi := ⟨some 118, _, _, _, _, _⟩) (v := ?_) rfl (by kernel_rfl) (by kernel_rfl) (by kernel_rfl) (fun _ _ _ h => h) (Or.inl ⟨by kernel_rfl, ?hy10⟩) (by assumption) ?_
                        case hy10 => (intro w' hSw; (try dsimp only at hSw); go_simp; try with_reducible rfl)
                        simp only [Act.put, List.setIfInBounds_toArray, List.set_cons_zero, List.set_cons_succ]
                        refine wpAnyH_take (i := 11) (oi := ⟨some 119, _, _, _, _, _⟩) (v := ?_) rfl (by kernel_rfl) (by kernel_rfl) (by kernel_rfl) (fun _ _ _ h => h) (Or.inl ⟨by kernel_rfl, ?hy11⟩) (by assumption) ?_
                        case hy11 => (intro w' hSw; (try dsimp only at hSw); go_simp; try with_reducible rfl)
                        simp only [Act.put, List.setIfInBounds_toArray, List.set_cons_zero, List.set_cons_succ]
                        refine wpAnyH_take (i := 12) (oi := ⟨some 120, _, _, _, _, _⟩) (v := ?_) rfl (by kernel_rfl) (by kernel_rfl) (by kernel_rfl) (fun _ _ _ h => h) (Or.inl ⟨by kernel_rfl, ?hy12⟩) (by assumption) ?_
                        case hy12 => (intro w' hSw; (try dsimp only at hSw); go_simp; try with_reducible rfl)
                        simp only [Act.put, List.setIfInBounds_toArray, List.set_cons_zero, List.set_cons_succ]
                        refine wpAnyH_take (i := 13) (oi := ⟨some 121, _, _, _, _, _⟩) (v := ?_) rfl (by kernel_rfl) (by kernel_rfl) (by kernel_rfl) (fun _ _ _ h => h) (Or.inl ⟨by kernel_rfl, ?hy13⟩) (by assumption) ?_
                        case hy13 => (intro w' hSw; (try dsimp only at hSw); go_simp; try with_reducible rfl)
                        simp only [Act.put, List.setIfInBounds_toArray, List.set_cons_zero, List.set_cons_succ]
                        refine wpAnyH_done (by kernel_rfl) ?_ _
                        go_wp2_with fail
                        go_roundw
                        case rel => exact ⟨j + 1, by omega, by go_num, Lib.hid (HX13.out.below drewB0), Lib.hid ((hRx.out.below HB13.out).drew), Lib.hid ((hRy.out.below HB13.out).drew)⟩
                        case measure => simp [intOf]; omega
                      · obtain rfl : j = LA.length := by omega
                        go_wp2_with fail
                        refine (aalive_calls wr (spans_below HS.out hT.out.bel)).mono ?_
                        rintro e w9 ⟨rfl, hb9⟩
                        have HB9 := Lib.hid (hT.out.bel.trans (hb9.mono (hT.out.bel).size))
                        clear hb9
                        go_wp2_with fail
                        go_ret
                        exact ⟨rfl, HB9.out⟩
  · rw [decide_eq_false hq] at Hfew
    clear hq
    go_enter Tryd.func6, Tryd.ntmps6
    go_wp2_with fail
    refine Hfew.out.mono ?_
    rintro e w1 ⟨rfl, hb1⟩
    have HB1 := Lib.hid hb1
    clear hb1 Hfew
    go_wp2_with fail
    refine (aalive_calls w1 (spans_below HS.out HB1.out)).mono ?_
    rintro e w9 ⟨rfl, hb9⟩
    have HB9 := Lib.hid (HB1.out.trans (hb9.mono (HB1.out).size))
    clear hb9
    go_wp2_with fail
    go_ret
    exact ⟨rfl, HB9.out⟩
end Go.Proofs.YthifdojbbbnpaaaDoor
