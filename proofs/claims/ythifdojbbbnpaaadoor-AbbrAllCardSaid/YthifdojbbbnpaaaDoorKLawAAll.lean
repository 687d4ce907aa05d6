/-
  AbbrAll (layer 8).
-/
import Derived.Test.YthifdojbbbnpaaaDoorPa28
namespace Go.Proofs.YthifdojbbbnpaaaDoor
open Go Go.RowKit
set_option maxRecDepth 100000

set_option maxHeartbeats 8000000 in
theorem aall_calls (A0 : Option Addr) (c0 : Nat) (os : List OpA) (w : World) (hO : RdA w A0 os) (hl : os.length ≤ 9223372036854775807) (hsp : Spans w) :
    Calls Tryd.prog 3 #[.slice A0 os.length c0] w fun e w' => e = .returned (.bool true) ∧ Below w.heap.size w w' := by
  have Hfew := Lib.hid (few8_calls A0 c0 os w hO hl)
  have HO := Lib.hid hO
  have HS := Lib.hid hsp
  clear hO hsp
  by_cases hq : os.length ≤ 100 ∧ totA os ≤ 6000
  · rw [decide_eq_true hq] at Hfew
    have HQ := Lib.hid hq
    clear hq
    go_enter Tryd.func3, Tryd.ntmps3
    go_wp2_with fail
    refine Hfew.out.mono ?_
    rintro e w1 ⟨rfl, hb1⟩
    have HX1 := Lib.hid (AbX.start (w0 := w) (w := w1) hb1)
    clear hb1 Hfew
    go_wp2_with fail
    go_loopw [4, 20] (fun v4 v20 wr => ∃ (k : Nat) (l : List PR) (A : Option Addr) (c : Nat), k ≤ os.length ∧ v20 = .int .i64 (k : Int) ∧ v4 = .slice A l.length c ∧ Hid (AbX w wr (fun _ => False) w1.heap.size l A)) (fun _ v20 _ => os.length - (intOf v20).toNat)
    case atStart => exact ⟨0, [], none, 0, Nat.zero_le _, rfl, rfl, HX1⟩
    case round =>
      obtain ⟨k, l, A, c, hk, rfl, rfl, hX⟩ := hrel
      clear HX1
      by_cases hlt : k < os.length
      · obtain ⟨g, og, rfl, hg, e0, e1, e2, _, _⟩ := (HO.out.below hX.out.bel).at_ hlt
        have Hsz : Hid ((os.getD k OpA.none_).n.size ≤ 100000 ∧ (os.getD k OpA.none_).t.size ≤ 100000) := Lib.hid (by
          have h1 := totA_at hlt
          have h2 := HQ.out.2
          unfold OpA.len at h1
          omega)
        have hx5 := hX.out.below ((Below.refl _ wr).alloc (Nat.le_refl _) (.cells #[.int .i64 (os.getD k OpA.none_).k, .string (os.getD k OpA.none_).n, .string (os.getD k OpA.none_).t] 30))
        have hn5 := BxA.new wr 30 [.int .i64 (os.getD k OpA.none_).k, .string (os.getD k OpA.none_).n, .string (os.getD k OpA.none_).t]
        have m0 := hn5.c 0 rfl
        have m1 := hn5.c 1 rfl
        have m2 := hn5.c 2 rfl
        have Hdo := Lib.hid (adoes_calls w _ (fun _ => False) _ l A c hx5 HS.out (os.getD k OpA.none_) Hsz.out.1 Hsz.out.2)
        clear hX hx5 hn5
        generalize os.getD k OpA.none_ = o at *
        have hkl : (k : Int) < (os.length : Int) := by omega
        go_wp2_with fail
        refine Hdo.out.mono ?_
        rintro e w5 ⟨A', c', rfl, hx, _⟩
        have HX5 := Lib.hid hx
        clear hx Hdo m0 m1 m2 e0 e1 e2
        generalize doA l o = l' at *
        go_wp2_with fail
        refine (HX5.out.rd (E := fun e w' => ∃ A c, e = .returned (.slice A l'.length c) ∧ RdV Value.string w' A (l'.map Prod.fst)) (fun O hO => (tnames_calls w5 O _ l' hO).mono (fun e w' hh => by
          obtain ⟨A, c, e1, e2, e3⟩ := hh
          exact ⟨⟨A, c, e1, e2⟩, e3⟩))).mono ?_
        rintro e w6 ⟨⟨An, cn, rfl, hr⟩, hx, _⟩
        have HN := Lib.hid hr
        have HX6 := Lib.hid hx
        have q0 : ((l'.length : Int) != (l'.length : Int)) = false := bne_self_eq_false _
        have hl16 : l'.length ≤ 16 := hx.len
        clear hx hr HX5
        go_wp2_with fail
        go_loopw [43] (fun v43 wr2 => ∃ j : Nat, j ≤ l'.length ∧ v43 = .int .i64 (j : Int) ∧ Hid (AbX w wr2 (fun _ => False) w1.heap.size l' A') ∧ Below w6.heap.size w6 wr2) (fun v43 _ => l'.length - (intOf v43).toNat)
        case atStart => exact ⟨0, Nat.zero_le _, rfl, HX6, Below.refl _ _⟩
        case round =>
          obtain ⟨j, hj, rfl, hX, hbel⟩ := hrel
          clear HX6
          by_cases hjl : j < l'.length
          · obtain ⟨g2, o2, q, rfl, hg2, hq, c0, c1⟩ := pr_at hX.out.row hjl
            have hmap : (l'.map Prod.fst)[j]? = some q.1 := by rw [List.getElem?_map, hq]; rfl
            obtain ⟨g3, o3, rfl, hg3, hc3⟩ := (HN.out.below hbel) (by rw [List.length_map]; omega)
            have c3 := hc3 j q.1 hmap
            have hgp : getP l' q.1 = some q.2 := (getP_iff hX.out.once).2 (List.mem_of_getElem? hq)
            have HGP := Lib.hid hgp
            have hx5 := hX.out.below ((Below.refl _ wr).alloc (Nat.le_refl _) (.cells #[.string q.1, .string q.2] 37))
            have hn5 := BxA.new wr 37 [.string q.1, .string q.2]
            have HB7 := Lib.hid (hbel.alloc hbel.size (.cells #[.string q.1, .string q.2] 37))
            have c3' : (wr.alloc (.cells #[.string q.1, .string q.2] 37)).cell? ⟨g3, o3 + j, none⟩ = some (.string q.1) := (((Below.refl _ wr).alloc (Nat.le_refl _) (.cells #[.string q.1, .string q.2] 37)).cell (p := ⟨g3, o3 + j, none⟩) hg3).trans c3
            obtain ⟨W7, hW7⟩ : ∃ W7, wr.alloc (.cells #[.string q.1, .string q.2] 37) = W7 := ⟨_, rfl⟩
            rw [hW7] at hx5 hn5 HB7 c3'
            have HX7 := Lib.hid hx5
            have HQ7 := Lib.hid hn5
            have HC7 : Hid (∀ W, Below W7.heap.size W7 W → W.cell? ⟨g3, o3 + j, none⟩ = some (.string q.1)) := Lib.hid (fun W hW => (hW.cell (p := ⟨g3, o3 + j, none⟩) (by rw [← hW7, World.size_alloc]; show g3 < _; omega)).trans c3')
            have m0 := hn5.c 0 rfl
            have hjk : (j : Int) < (l'.length : Int) := by omega
            clear hX hbel hc3 hmap hgp hx5 hn5 c3 c3' hq hg2 hg3
            go_wp2_with fail
            refine (HX7.out.rd (E := fun e _ => e = .returned (.tuple #[.string q.2, .bool true])) (fun O hO => (tget_calls W7 O _ l' hO q.1).mono (fun e w' hh => by
              rw [HGP.out] at hh
              exact hh))).mono ?_
            rintro e w8 ⟨rfl, hx, hb⟩
            have HX8 := Lib.hid hx
            have HB8 := Lib.hid (HB7.out.trans (hb.mono HB7.out.size))
            have hq8 := HQ7.out.below hb
            have k0 := hq8.c 0 rfl
            have k1 := hq8.c 1 rfl
            have k3 := HC7.out w8 hb
            clear hx hb hq8 HX7 HQ7 HC7 HB7 m0 c0 c1 hW7 HGP
            have q1 : (q.1.toList == q.1.toList) = true := beq_self_eq_true _
            have q2 : (q.2.toList == q.2.toList) = true := beq_self_eq_true _
            go_upto_region 17 with fail
            refine wp_region_held_drew (S := (fun w' => w'.cell? ⟨g3, o3 + j, none⟩ = some (.string q.1) ∧ w'.cell? ⟨wr.heap.size, 0, none⟩ = some (.string q.1) ∧ w'.cell? ⟨wr.heap.size, 1, none⟩ = some (.string q.2))) (by kernel_rfl) ⟨k3, k0, k1⟩ (fun hHeld => ?_)
            refine wpAnyH_take (i := 0) (oi := ⟨some 54, _, _, _, _, _⟩) (v := ?_) rfl (by kernel_rfl) (by kernel_rfl) (by kernel_rfl) (fun _ _ _ h => h) (Or.inl ⟨by kernel_rfl, ?hy0⟩) (by assumption) ?_
            case hy0 => (intro w' hSw; (try dsimp only at hSw); go_simp; try with_reducible rfl)
            simp only [Act.put, List.setIfInBounds_toArray, List.set_cons_zero, List.set_cons_succ]
            refine wpAnyH_take (i := 1) (oi := ⟨some 55, _, _, _, _, _⟩) (v := ?_) rfl (by kernel_rfl) (by kernel_rfl) (by kernel_rfl) (fun _ _ _ h => h) (Or.inl ⟨by kernel_rfl, ?hy1⟩) (by assumption) ?_
            case hy1 => (intro w' hSw; (try dsimp only at hSw); go_simp; try with_reducible rfl)
            simp only [Act.put, List.setIfInBounds_toArray, List.set_cons_zero, List.set_cons_succ]
            refine wpAnyH_take (i := 2) (oi := ⟨some 56, _, _, _, _, _⟩) (v := ?_) rfl (by kernel_rfl) (by kernel_rfl) (by kernel_rfl) (fun _ _ _ h => h) (Or.inl ⟨by kernel_rfl, ?hy2⟩) (by assumption) ?_
            case hy2 => (intro w' hSw; (try dsimp only at hSw); go_simp; try with_reducible rfl)
            simp only [Act.put, List.setIfInBounds_toArray, List.set_cons_zero, List.set_cons_succ]
            refine wpAnyH_take (i := 3) (oi := ⟨some 57, _, _, _, _, _⟩) (v := ?_) rfl (by kernel_rfl) (by kernel_rfl) (by kernel_rfl) (fun _ _ _ h => h) (Or.inl ⟨by kernel_rfl, ?hy3⟩) (by assumption) ?_
            case hy3 => (intro w' hSw; (try dsimp only at hSw); go_simp; try with_reducible rfl)
            simp only [Act.put, List.setIfInBounds_toArray, List.set_cons_zero, List.set_cons_succ]
            refine wpAnyH_take (i := 4) (oi := ⟨some 58, _, _, _, _, _⟩) (v := ?_) rfl (by kernel_rfl) (by kernel_rfl) (by kernel_rfl) (fun _ _ _ h => h) (Or.inl ⟨by kernel_rfl, ?hy4⟩) (by assumption) ?_
            case hy4 => (intro w' hSw; (try dsimp only at hSw); go_simp; try with_reducible rfl)
            simp only [Act.put, List.setIfInBounds_toArray, List.set_cons_zero, List.set_cons_succ]
            refine wpAnyH_take (i := 5) (oi := ⟨some 59, _, _, _, _, _⟩) (v := ?_) rfl (by kernel_rfl) (by kernel_rfl) (by kernel_rfl) (fun _ _ _ h => h) (Or.inl ⟨by kernel_rfl, ?hy5⟩) (by assumption) ?_
            case hy5 => (intro w' hSw; (try dsimp only at hSw); go_simp; try with_reducible rfl)
            simp only [Act.put, List.setIfInBounds_toArray, List.set_cons_zero, List.set_cons_succ]
            refine wpAnyH_take (i := 6) (oi := ⟨some 60, _, _, _, _, _⟩) (v := ?_) rfl (by kernel_rfl) (by kernel_rfl) (by kernel_rfl) (fun _ _ _ h => h) (Or.inl ⟨by kernel_rfl, ?hy6⟩) (by assumption) ?_
            case hy6 => (intro w' hSw; (try dsimp only at hSw); go_simp; try with_reducible rfl)
            simp only [Act.put, List.setIfInBounds_toArray, List.set_cons_zero, List.set_cons_succ]
            refine wpAnyH_take (i := 7) (oi := ⟨some 61, _, _, _, _, _⟩) (v := ?_) rfl (by kernel_rfl) (by kernel_rfl) (by kernel_rfl) (fun _ _ _ h => h) (Or.inl ⟨by kernel_rfl, ?hy7⟩) (by assumption) ?_
            case hy7 => (intro w' hSw; (try dsimp only at hSw); go_simp; try with_reducible rfl)
            simp only [Act.put, List.setIfInBounds_toArray, List.set_cons_zero, List.set_cons_succ]
            refine wpAnyH_take (i := 8) (oi := ⟨some 62, _, _, _, _, _⟩) (v := ?_) rfl (by kernel_rfl) (by kernel_rfl) (by kernel_rfl) (fun _ _ _ h => h) (Or.inl ⟨by kernel_rfl, ?hy8⟩) (by assumption) ?_
            case hy8 => (intro w' hSw; (try dsimp only at hSw); go_simp; try with_reducible rfl)
            simp only [Act.put, List.setIfInBounds_toArray, List.set_cons_zero, List.set_cons_succ]
            refine wpAnyH_take (i := 9) (oi := ⟨some 63, _, _, _, _, _⟩) (v := ?_) rfl (by kernel_rfl) (by kernel_rfl) (by kernel_rfl) (fun _ _ _ h => h) (Or.inl ⟨by kernel_rfl, ?hy9⟩) (by assumption) ?_
            case hy9 => (intro w' hSw; (try dsimp only at hSw); go_simp; try with_reducible rfl)
            simp only [Act.put, List.setIfInBounds_toArray, List.set_cons_zero, List.set_cons_succ]
            refine wpAnyH_take (i := 10) (oi := ⟨some 64, _, _, _, _, _⟩) (v := ?_) rfl (by kernel_rfl) (by kernel_rfl) (by kernel_rfl) (fun _ _ _ h => h) (Or.inl ⟨by kernel_rfl, ?hy10⟩) (by assumption) ?_
            case hy10 => (intro w' hSw; (try dsimp only at hSw); go_simp; try with_reducible rfl)
            simp only [Act.put, List.setIfInBounds_toArray, List.set_cons_zero, List.set_cons_succ]
            refine wpAnyH_take (i := 11) (oi := ⟨some 65, _, _, _, _, _⟩) (v := ?_) rfl (by kernel_rfl) (by kernel_rfl) (by kernel_rfl) (fun _ _ _ h => h) (Or.inl ⟨by kernel_rfl, ?hy11⟩) (by assumption) ?_
            case hy11 => (intro w' hSw; (try dsimp only at hSw); go_simp; try with_reducible rfl)
            simp only [Act.put, List.setIfInBounds_toArray, List.set_cons_zero, List.set_cons_succ]
            refine wpAnyH_take (i := 12) (oi := ⟨some 66, _, _, _, _, _⟩) (v := ?_) rfl (by kernel_rfl) (by kernel_rfl) (by kernel_rfl) (fun _ _ _ h => h) (Or.inl ⟨by kernel_rfl, ?hy12⟩) (by assumption) ?_
            case hy12 => (intro w' hSw; (try dsimp only at hSw); go_simp; try with_reducible rfl)
            simp only [Act.put, List.setIfInBounds_toArray, List.set_cons_zero, List.set_cons_succ]
            refine wpAnyH_take (i := 13) (oi := ⟨some 67, _, _, _, _, _⟩) (v := ?_) rfl (by kernel_rfl) (by kernel_rfl) (by kernel_rfl) (fun _ _ _ h => h) (Or.inl ⟨by kernel_rfl, ?hy13⟩) (by assumption) ?_
            case hy13 => (intro w' hSw; (try dsimp only at hSw); go_simp; try with_reducible rfl)
            simp only [Act.put, List.setIfInBounds_toArray, List.set_cons_zero, List.set_cons_succ]
            refine wpAnyH_take (i := 14) (oi := ⟨some 68, _, _, _, _, _⟩) (v := ?_) rfl (by kernel_rfl) (by kernel_rfl) (by kernel_rfl) (fun _ _ _ h => h) (Or.inl ⟨by kernel_rfl, ?hy14⟩) (by assumption) ?_
            case hy14 => (intro w' hSw; (try dsimp only at hSw); go_simp; try with_reducible rfl)
            simp only [Act.put, List.setIfInBounds_toArray, List.set_cons_zero, List.set_cons_succ]
            refine wpAnyH_take (i := 15) (oi := ⟨some 69, _, _, _, _, _⟩) (v := ?_) rfl (by kernel_rfl) (by kernel_rfl) (by kernel_rfl) (fun _ _ _ h => h) (Or.inl ⟨by kernel_rfl, ?hy15⟩) (by assumption) ?_
            case hy15 => (intro w' hSw; (try dsimp only at hSw); go_simp; try with_reducible rfl)
            simp only [Act.put, List.setIfInBounds_toArray, List.set_cons_zero, List.set_cons_succ]
            refine wpAnyH_take (i := 16) (oi := ⟨some 70, _, _, _, _, _⟩) (v := ?_) rfl (by kernel_rfl) (by kernel_rfl) (by kernel_rfl) (fun _ _ _ h => h) (Or.inl ⟨by kernel_rfl, ?hy16⟩) (by assumption) ?_
            case hy16 => (intro w' hSw; (try dsimp only at hSw); go_simp; try with_reducible rfl)
            simp only [Act.put, List.setIfInBounds_toArray, List.set_cons_zero, List.set_cons_succ]
            refine wpAnyH_done (by kernel_rfl) ?_ _
            go_wp2_with fail
            go_roundw
            case rel => exact ⟨j + 1, by omega, by go_num, Lib.hid (HX8.out.below drewB), HB8.out.drew⟩
            case measure => simp [intOf]; omega
          · obtain rfl : j = l'.length := by omega
            go_wp2_with fail
            go_roundw
            case rel => exact ⟨k + 1, l', A', c', by omega, by go_num, rfl, hX⟩
            case measure => simp [intOf]; omega
      · obtain rfl : k = os.length := by omega
        go_wp2_with fail
        refine (aalive_calls wr (spans_below HS.out hX.out.bel)).mono ?_
        rintro e w9 ⟨rfl, hb9⟩
        have HB9 := Lib.hid (hX.out.bel.trans (hb9.mono (hX.out.bel).size))
        clear hb9
        go_wp2_with fail
        go_ret
        exact ⟨rfl, HB9.out⟩
  · rw [decide_eq_false hq] at Hfew
    clear hq
    go_enter Tryd.func3, Tryd.ntmps3
    go_wp2_with fail
    refine Hfew.out.mono ?_
    rintro e w1 ⟨rfl, hb1⟩
    have HB1 := Lib.hid hb1
    clear hb1 Hfew
    go_wp2_with fail
    refine (aalive_calls w1 (spans_below HS.out HB1.out)).mono ?_
    rintro e w9 ⟨rfl, hb9⟩
    have HB9 := Lib.hid (HB1.out.trans (hb9.mono (HB1.out).size))
    clear hb9
    go_wp2_with fail
    go_ret
    exact ⟨rfl, HB9.out⟩
end Go.Proofs.YthifdojbbbnpaaaDoor
