/-
  AbbrDrops (layer 8).
-/
import Derived.Test.YthifdojbbbnpaaaDoorPa25
namespace Go.Proofs.YthifdojbbbnpaaaDoor
open Go Go.RowKit
set_option maxRecDepth 100000

set_option maxHeartbeats 8000000 in
theorem adrops_calls (n t : ByteArray) (w : World) (hn : n.size ≤ 9223372036854775807) (ht : t.size ≤ 9223372036854775807) (hsp : Spans w) :
    Calls Tryd.prog 5 #[.string n, .string t] w fun e w' => e = .returned (.bool true) ∧ Below w.heap.size w w' := by
  have HS := Lib.hid hsp
  have HT1 := Lib.hid (TbX.start (w0 := w) (w := w) (Below.refl _ w))
  have hb1 : Below w.heap.size w (w.alloc (.cells #[.map none] 27)) := (Below.refl _ w).alloc (Nat.le_refl _) _
  have HB1 := Lib.hid hb1
  clear hsp hb1
  by_cases h1 : 100 < n.size
  · have d1 : decide ((100 : Int) < (n.size : Int)) = true := decide_eq_true (by omega)
    clear h1
    go_enter Tryd.func5, Tryd.ntmps5
    go_wp2_with fail
    refine (aalive_calls (w.alloc (.cells #[.map none] 27)) (spans_below HS.out HB1.out)).mono ?_
    rintro e w9 ⟨rfl, hb9⟩
    have HB9 := Lib.hid (HB1.out.trans (hb9.mono (HB1.out).size))
    clear hb9
    go_wp2_with fail
    go_ret
    exact ⟨rfl, HB9.out⟩
  · have d1 : ¬ ((100 : Int) < (n.size : Int)) := by omega
    by_cases h2 : 1000 < t.size
    · have d2 : decide ((1000 : Int) < (t.size : Int)) = true := decide_eq_true (by omega)
      clear h2 h1
      go_enter Tryd.func5, Tryd.ntmps5
      go_wp2_with fail
      refine (aalive_calls (w.alloc (.cells #[.map none] 27)) (spans_below HS.out HB1.out)).mono ?_
      rintro e w9 ⟨rfl, hb9⟩
      have HB9 := Lib.hid (HB1.out.trans (hb9.mono (HB1.out).size))
      clear hb9
      go_wp2_with fail
      go_ret
      exact ⟨rfl, HB9.out⟩
    · have d2 : ¬ ((1000 : Int) < (t.size : Int)) := by omega
      by_cases hok : nameB n = true ∧ (plainL (bl t)).length ≤ 100
      · obtain ⟨hnm, hp1⟩ := hok
        obtain ⟨x, rfl⟩ : ∃ x, n = bs x := ⟨bl n, (bs_bl n).symm⟩
        have hxs : (bs x).size = x.length := bs_size x
        have HP : Hid (∀ W, Calls Tryd.prog 17 #[.string t] W fun e w' => e = .returned (.string (bs (plainL (bl t)))) ∧ Below W.heap.size W w') := Lib.hid (fun W => by
          have := plain_calls (bl t) (by unfold bl; simp; omega) W
          rwa [bs_bl] at this)
        have hpp : plainL (plainL (bl t)) = plainL (bl t) := (plain_P _).plain
        have h100 : ¬ 100 < (plainL (bl t)).length := by omega
        have hnb : nameB (bs x) = true := hnm
        obtain ⟨p, hpe⟩ : ∃ p, plainL (bl t) = p := ⟨_, rfl⟩
        have hsn : setR [] (bs x) t = ([(bs x, bs (plainL (bl t)))], 0) := by
          rw [setR_now hnm h100 (fun e => absurd e.2 (by decide))]
          rfl
        rw [hpe] at hsn HP hpp hp1
        clear h100 hpe h1 h2
        go_enter Tryd.func5, Tryd.ntmps5
        have HP100 : Hid (p.length ≤ 100) := Lib.hid (by omega)
        have hsr := hsn
        go_wp2_with fail
        refine (HT1.out.turn (P := Tryd.prog) (f := 13) (args := #[.pointer (some ⟨w.heap.size, 0, none⟩), .string (bs x), .string t]) (E := fun e => e = .returned (.int .i64 0)) (l' := [(bs x, bs p)]) (fun O hO => by
          have := tset_calls _ O _ [] hO (bs x) t (by omega) (by omega)
          rw [hsr] at this
          exact this)).mono ?_
        rintro e w2 ⟨rfl, hx2, _⟩
        have HX2 := Lib.hid hx2
        have HMk : Hid (∀ W, Spans W → Calls Tryd.prog 14 #[.string (bs x), .int .i64 (x.length : Int)] W fun e w' => e = .returned (.agg #[.string (bs x), .int .i64 (x.length : Int)]) ∧ Below W.heap.size W w') := Lib.hid (fun W hW => by
          have := make_calls x (x.length : Int) (by omega) W hW
          rw [(name_rt hnb).make.1, (name_rt hnb).make.2] at this
          exact this)
        have Hnb := Lib.hid hnb
        have Hrt := Lib.hid (name_rt hnb)
        have Hpp := Lib.hid hpp
        clear hx2 hsr hsn HT1 hnm
        go_wp2_with fail
        refine (HMk.out w2 (spans_below HS.out HX2.out.bel)).mono ?_
        rintro e w3 ⟨rfl, hb3⟩
        have hx4 := (HX2.out.below hb3).add (Y := fun k => k = w3.heap.size) ((Below.refl _ w3).alloc (Nat.le_refl _) (.cells #[.string (bs x), .int .i64 (x.length : Int)] 44)) (fun k (hk : k = _) => ⟨by omega, by rw [World.size_alloc]; omega⟩)
        have hb4 := BxA.new w3 44 [.string (bs x), .int .i64 (x.length : Int)]
        obtain ⟨w4, hw4⟩ : ∃ w4, w3.alloc (.cells #[.string (bs x), .int .i64 (x.length : Int)] 44) = w4 := ⟨_, rfl⟩
        rw [hw4] at hx4 hb4
        have HX4 := Lib.hid hx4
        have HB4 := Lib.hid hb4
        have m0 := hb4.c 0 rfl
        have m1 := hb4.c 1 rfl
        clear hb3 hx4 hb4 HX2 HMk
        go_wp2_with fail
        clear hw4
        refine (HX4.out.rd (E := fun e _ => e = .returned (.tuple #[.agg #[.string (bs (growR [(bs x, bs p)] (x, x.length)).1.1), .int .i64 ((growR [(bs x, bs p)] (x, x.length)).1.2 : Int)], .bool (growR [(bs x, bs p)] (x, x.length)).2])) (fun O hO => (tgrow_calls w4 O _ _ hO (spans_below HS.out HX4.out.bel) x (x.length : Int) (by omega)).mono (fun e w' hh => by
          rw [Hrt.out.make.1, Hrt.out.make.2] at hh
          exact hh))).mono ?_
        rintro e w5 ⟨rfl, hx5, hb5⟩
        have hor := grow_one Hnb.out Hpp.out HP100.out
        generalize growR [(bs x, bs p)] (x, x.length) = r1 at *
        obtain ⟨⟨cs, ca⟩, is⟩ := r1
        have HOr := Lib.hid hor
        have hx6 := hx5.add (Y := fun k => k = w5.heap.size) ((Below.refl _ w5).alloc (Nat.le_refl _) (.cells #[.string (bs cs), .int .i64 (ca : Int)] 44)) (fun k (hk : k = _) => ⟨by omega, by rw [World.size_alloc]; omega⟩)
        have hb5b := (HB4.out.below hb5).alloc (.cells #[.string (bs cs), .int .i64 (ca : Int)] 44)
        have hc5b := BxA.new w5 44 [.string (bs cs), .int .i64 (ca : Int)]
        obtain ⟨w5b, hw5⟩ : ∃ w5b, w5.alloc (.cells #[.string (bs cs), .int .i64 (ca : Int)] 44) = w5b := ⟨_, rfl⟩
        rw [hw5] at hx6 hb5b hc5b
        have HX6 := Lib.hid hx6
        have HB5 := Lib.hid hb5b
        have HC5 := Lib.hid hc5b
        clear hor hx5 hb5 hx6 hb5b hc5b HX4 HB4 m0 m1
        go_wp2_with fail
        clear hw5
        refine (HX6.out.turn (P := Tryd.prog) (f := 16) (args := #[.pointer (some ⟨w.heap.size, 0, none⟩), .string (bs x)]) (E := fun e => e = .returned (.bool true)) (l' := []) (fun O hO => by
          have := tdrop_calls _ O _ _ hO (bs x)
          have e1 : getP [(bs x, bs p)] (bs x) = some (bs p) := by rw [getP_cons, if_pos rfl]
          have e2 : dropR [(bs x, bs p)] (bs x) = [] := by unfold dropR; simp
          rw [e1, e2] at this
          exact this)).mono ?_
        rintro e w6 ⟨rfl, hx7, ho6⟩
        have hb6 := HB5.out.keep ho6 (fun hn => hn (.inl (.inr rfl)))
        have hc6 := HC5.out.keep ho6 (fun hn => hn (.inr rfl))
        have HX7 := Lib.hid hx7
        have HB6 := Lib.hid hb6
        have HC6 := Lib.hid hc6
        have m0 := hb6.c 0 rfl
        have m1 := hb6.c 1 rfl
        clear hx7 ho6 hb6 hc6 HX6 HB5 HC5
        go_wp2_with fail
        refine (HX7.out.rd (E := fun e _ => e = .returned (.tuple #[.agg #[.string (bs x), .int .i64 (x.length : Int)], .bool false])) (fun O hO => (tgrow_calls w6 O _ _ hO (spans_below HS.out HX7.out.bel) x (x.length : Int) (by omega)).mono (fun e w' hh => by
          rw [Hrt.out.make.1, Hrt.out.make.2, growR_none (b := (x, x.length)) (l := []) rfl] at hh
          exact hh))).mono ?_
        rintro e w7 ⟨rfl, hx7b, hb7⟩
        have hor := HOr.out
        have HPl : Hid (∀ W, Calls Tryd.prog 17 #[.string t] W fun e w' => e = .returned (.string (bs p)) ∧ Below W.heap.size W w') := Lib.hid (fun W => HP.out W)
        clear HOr m0 m1 HX7
        rcases hor with ⟨h1, h2⟩ | ⟨h1, h2, h3⟩
        · try dsimp only at h1 h2
          subst h1
          subst h2
          have hx8 := hx7b.below ((Below.refl _ w7).alloc (Nat.le_refl _) (.cells #[.string (bs x), .int .i64 (x.length : Int)] 44))
          have hd8 := BxA.new w7 44 [.string (bs x), .int .i64 (x.length : Int)]
          have hb8 := (HB6.out.below hb7).alloc (.cells #[.string (bs x), .int .i64 (x.length : Int)] 44)
          have hc8 := (HC6.out.below hb7).alloc (.cells #[.string (bs x), .int .i64 (x.length : Int)] 44)
          obtain ⟨w8, hw8⟩ : ∃ w8, w7.alloc (.cells #[.string (bs x), .int .i64 (x.length : Int)] 44) = w8 := ⟨_, rfl⟩
          rw [hw8] at hx8 hd8 hb8 hc8
          have HB8 := Lib.hid hx8.bel
          have j0 := hd8.c 0 rfl
          have j1 := hd8.c 1 rfl
          have k0 := hb8.c 0 rfl
          have k1 := hb8.c 1 rfl
          have q0 := hc8.c 0 rfl
          have HKeep : Hid (∀ W, Below w8.heap.size w8 W → (fun w' => w'.cell? ⟨w7.heap.size, 0, none⟩ = some (.string (bs x)) ∧ w'.cell? ⟨w7.heap.size, 1, none⟩ = some (.int .i64 (x.length : Int)) ∧ w'.cell? ⟨w3.heap.size, 0, none⟩ = some (.string (bs x)) ∧ w'.cell? ⟨w3.heap.size, 1, none⟩ = some (.int .i64 (x.length : Int)) ∧ w'.cell? ⟨w5.heap.size, 0, none⟩ = some (.string (bs cs))) W) := Lib.hid (fun W hW => ⟨(hd8.below hW).c 0 rfl, (hd8.below hW).c 1 rfl, (hb8.below hW).c 0 rfl, (hb8.below hW).c 1 rfl, (hc8.below hW).c 0 rfl⟩)
          have HKeep2 : Hid (∀ W W', (fun w' => w'.cell? ⟨w7.heap.size, 0, none⟩ = some (.string (bs x)) ∧ w'.cell? ⟨w7.heap.size, 1, none⟩ = some (.int .i64 (x.length : Int)) ∧ w'.cell? ⟨w3.heap.size, 0, none⟩ = some (.string (bs x)) ∧ w'.cell? ⟨w3.heap.size, 1, none⟩ = some (.int .i64 (x.length : Int)) ∧ w'.cell? ⟨w5.heap.size, 0, none⟩ = some (.string (bs cs))) W → Below W.heap.size W W' → (fun w' => w'.cell? ⟨w7.heap.size, 0, none⟩ = some (.string (bs x)) ∧ w'.cell? ⟨w7.heap.size, 1, none⟩ = some (.int .i64 (x.length : Int)) ∧ w'.cell? ⟨w3.heap.size, 0, none⟩ = some (.string (bs x)) ∧ w'.cell? ⟨w3.heap.size, 1, none⟩ = some (.int .i64 (x.length : Int)) ∧ w'.cell? ⟨w5.heap.size, 0, none⟩ = some (.string (bs cs))) W') := Lib.hid (fun W W' h hW => ⟨(hW.cell (p := ⟨w7.heap.size, 0, none⟩) (World.block_lt_of_cell? _ _ h.1)).trans h.1, (hW.cell (p := ⟨w7.heap.size, 1, none⟩) (World.block_lt_of_cell? _ _ h.2.1)).trans h.2.1, (hW.cell (p := ⟨w3.heap.size, 0, none⟩) (World.block_lt_of_cell? _ _ h.2.2.1)).trans h.2.2.1, (hW.cell (p := ⟨w3.heap.size, 1, none⟩) (World.block_lt_of_cell? _ _ h.2.2.2.1)).trans h.2.2.2.1, (hW.cell (p := ⟨w5.heap.size, 0, none⟩) (World.block_lt_of_cell? _ _ h.2.2.2.2)).trans h.2.2.2.2⟩)
          have hqe := aeqT (bs x) (x.length : Int)
          have hte : ((bs cs).toList == (bs cs).toList) = true := beq_self_eq_true _
          clear hx7b hb7 hx8 hd8 hb8 hc8 HB6 HC6
          go_upto_region 8 with fail
          refine wp_region_held_drew (S := (fun w' => w'.cell? ⟨w7.heap.size, 0, none⟩ = some (.string (bs x)) ∧ w'.cell? ⟨w7.heap.size, 1, none⟩ = some (.int .i64 (x.length : Int)) ∧ w'.cell? ⟨w3.heap.size, 0, none⟩ = some (.string (bs x)) ∧ w'.cell? ⟨w3.heap.size, 1, none⟩ = some (.int .i64 (x.length : Int)) ∧ w'.cell? ⟨w5.heap.size, 0, none⟩ = some (.string (bs cs)))) (by kernel_rfl) ⟨j0, j1, k0, k1, q0⟩ (fun hHeld => ?_)
          refine wpAnyH_ready (rs := [0]) (by kernel_rfl) (by simp) ?_
          refine AllReadyH.cons (o := ⟨some 43, _, _, _, _, _⟩) rfl (fun K hK => ?_) AllReadyH.nil
          (rw [if_pos (by kernel_rfl)])
          go_simp
          refine (aalive_calls _ (spans_below HS.out (HB8.out.drew))).mono ?_; rintro e w9 ⟨rfl, hb9⟩; have HB9 := Lib.hid (HB8.out.drew.trans (hb9.mono HB8.out.size)); have hk9 := HKeep.out _ ((Below.refl _ w8).drew.trans (hb9.mono (Nat.le_refl _))); clear hb9
          refine hK.out _ _ hk9 (fun hHeld => ?_)
          clear hK K
          refine wpAnyH_take (i := 1) (oi := ⟨some 44, _, _, _, _, _⟩) (v := ?_) rfl (by kernel_rfl) (by kernel_rfl) (by kernel_rfl) (fun _ _ _ h => h) (Or.inl ⟨by kernel_rfl, ?hy1⟩) (by assumption) ?_
          case hy1 => (intro w' hSw; (try dsimp only at hSw); go_simp; try with_reducible rfl)
          simp only [Act.put, List.setIfInBounds_toArray, List.set_cons_zero, List.set_cons_succ]
          refine wpAnyH_take (i := 2) (oi := ⟨some 45, _, _, _, _, _⟩) (v := ?_) rfl (by kernel_rfl) (by kernel_rfl) (by kernel_rfl) (fun _ _ _ h => h) (Or.inl ⟨by kernel_rfl, ?hy2⟩) (by assumption) ?_
          case hy2 => (intro w' hSw; (try dsimp only at hSw); go_simp; try with_reducible rfl)
          simp only [Act.put, List.setIfInBounds_toArray, List.set_cons_zero, List.set_cons_succ]
          refine wpAnyH_take (i := 3) (oi := ⟨some 46, _, _, _, _, _⟩) (v := ?_) rfl (by kernel_rfl) (by kernel_rfl) (by kernel_rfl) (fun _ _ _ h => h) (Or.inl ⟨by kernel_rfl, ?hy3⟩) (by assumption) ?_
          case hy3 => (intro w' hSw; (try dsimp only at hSw); go_simp; try with_reducible rfl)
          simp only [Act.put, List.setIfInBounds_toArray, List.set_cons_zero, List.set_cons_succ]
          refine wpAnyH_take (i := 4) (oi := ⟨some 47, _, _, _, _, _⟩) (v := ?_) rfl (by kernel_rfl) (by kernel_rfl) (by kernel_rfl) (fun _ _ _ h => h) (Or.inl ⟨by kernel_rfl, ?hy4⟩) (by assumption) ?_
          case hy4 => (intro w' hSw; (try dsimp only at hSw); go_simp; try with_reducible rfl)
          simp only [Act.put, List.setIfInBounds_toArray, List.set_cons_zero, List.set_cons_succ]
          refine wpAnyH_take (i := 5) (oi := ⟨some 48, _, _, _, _, _⟩) (v := ?_) rfl (by kernel_rfl) (by kernel_rfl) (by kernel_rfl) (fun _ _ _ h => h) (Or.inl ⟨by kernel_rfl, ?hy5⟩) (by assumption) ?_
          case hy5 => (intro w' hSw; (try dsimp only at hSw); go_simp; try with_reducible rfl)
          simp only [Act.put, List.setIfInBounds_toArray, List.set_cons_zero, List.set_cons_succ]
          refine wpAnyH_take (i := 6) (oi := ⟨some 49, _, _, _, _, _⟩) (v := ?_) rfl (by kernel_rfl) (by kernel_rfl) (by kernel_rfl) (fun _ _ _ h => h) (Or.inl ⟨by kernel_rfl, ?hy6⟩) (by assumption) ?_
          case hy6 => (intro w' hSw; (try dsimp only at hSw); go_simp; try with_reducible rfl)
          simp only [Act.put, List.setIfInBounds_toArray, List.set_cons_zero, List.set_cons_succ]
          refine wpAnyH_take (i := 7) (oi := ⟨some 50, _, _, _, _, _⟩) (v := ?_) rfl (by kernel_rfl) (by kernel_rfl) (by kernel_rfl) (fun _ _ _ h => h) (Or.inl ⟨by kernel_rfl, ?hy7⟩) (by assumption) ?_
          case hy7 => (intro w' hSw; (try dsimp only at hSw); go_simp; try with_reducible rfl)
          simp only [Act.put, List.setIfInBounds_toArray, List.set_cons_zero, List.set_cons_succ]
          refine wpAnyH_take (i := 8) (oi := ⟨some 51, _, _, _, _, _⟩) (v := ?_) rfl (by kernel_rfl) (by kernel_rfl) (by kernel_rfl) (fun _ _ _ h => h) (Or.inl ⟨by kernel_rfl, ?hy8⟩) (by assumption) ?_
          case hy8 => (intro w' hSw; (try dsimp only at hSw); go_simp; try with_reducible rfl)
          simp only [Act.put, List.setIfInBounds_toArray, List.set_cons_zero, List.set_cons_succ]
          refine wpAnyH_take (i := 9) (oi := ⟨some 52, _, _, _, _, _⟩) (v := ?_) rfl (by kernel_rfl) (by kernel_rfl) (by kernel_rfl) (fun _ _ _ h => h) (Or.inl ⟨by kernel_rfl, ?hy9⟩) (by assumption) ?_
          case hy9 => (intro w' hSw; (try dsimp only at hSw); go_simp; try with_reducible rfl)
          simp only [Act.put, List.setIfInBounds_toArray, List.set_cons_zero, List.set_cons_succ]
          refine wpAnyH_take (i := 10) (oi := ⟨some 53, _, _, _, _, _⟩) (v := ?_) rfl (by kernel_rfl) (by kernel_rfl) (by kernel_rfl) (fun _ _ _ h => h) (Or.inl ⟨by kernel_rfl, ?hy10⟩) (by assumption) ?_
          case hy10 => (intro w' hSw; (try dsimp only at hSw); go_simp; try with_reducible rfl)
          simp only [Act.put, List.setIfInBounds_toArray, List.set_cons_zero, List.set_cons_succ]
          refine wpAnyH_take (i := 11) (oi := ⟨some 54, _, _, _, _, _⟩) (v := ?_) rfl (by kernel_rfl) (by kernel_rfl) (by kernel_rfl) (fun _ _ _ h => h) (Or.inl ⟨by kernel_rfl, ?hy11⟩) (by assumption) ?_
          case hy11 => (intro w' hSw; (try dsimp only at hSw); go_simp; try with_reducible rfl)
          simp only [Act.put, List.setIfInBounds_toArray, List.set_cons_zero, List.set_cons_succ]
          refine wpAnyH_take (i := 12) (oi := ⟨some 55, _, _, _, _, _⟩) (v := ?_) rfl (by kernel_rfl) (by kernel_rfl) (by kernel_rfl) (fun _ _ _ h => h) (Or.inl ⟨by kernel_rfl, ?hy12⟩) (by assumption) ?_
          case hy12 => (intro w' hSw; (try dsimp only at hSw); go_simp; try with_reducible rfl)
          simp only [Act.put, List.setIfInBounds_toArray, List.set_cons_zero, List.set_cons_succ]
          refine wpAnyH_take (i := 13) (oi := ⟨some 56, _, _, _, _, _⟩) (v := ?_) rfl (by kernel_rfl) (by kernel_rfl) (by kernel_rfl) (fun _ _ _ h => h) (Or.inl ⟨by kernel_rfl, ?hy13⟩) (by assumption) ?_
          case hy13 => (intro w' hSw; (try dsimp only at hSw); go_simp; try with_reducible rfl)
          simp only [Act.put, List.setIfInBounds_toArray, List.set_cons_zero, List.set_cons_succ]
          refine wpAnyH_take (i := 14) (oi := ⟨some 57, _, _, _, _, _⟩) (v := ?_) rfl (by kernel_rfl) (by kernel_rfl) (by kernel_rfl) (fun _ _ _ h => h) (Or.inl ⟨by kernel_rfl, ?hy14⟩) (by assumption) ?_
          case hy14 => (intro w' hSw; (try dsimp only at hSw); go_simp; try with_reducible rfl)
          simp only [Act.put, List.setIfInBounds_toArray, List.set_cons_zero, List.set_cons_succ]
          refine wpAnyH_take (i := 15) (oi := ⟨some 58, _, _, _, _, _⟩) (v := ?_) rfl (by kernel_rfl) (by kernel_rfl) (by kernel_rfl) (fun _ _ _ h => h) (Or.inl ⟨by kernel_rfl, ?hy15⟩) (by assumption) ?_
          case hy15 => (intro w' hSw; (try dsimp only at hSw); go_simp; try with_reducible rfl)
          simp only [Act.put, List.setIfInBounds_toArray, List.set_cons_zero, List.set_cons_succ]
          refine wpAnyH_take (i := 16) (oi := ⟨some 59, _, _, _, _, _⟩) (v := ?_) rfl (by kernel_rfl) (by kernel_rfl) (by kernel_rfl) (fun _ _ _ h => h) (Or.inl ⟨by kernel_rfl, ?hy16⟩) (by assumption) ?_
          case hy16 => (intro w' hSw; (try dsimp only at hSw); go_simp; try with_reducible rfl)
          simp only [Act.put, List.setIfInBounds_toArray, List.set_cons_zero, List.set_cons_succ]
          refine wpAnyH_take (i := 17) (oi := ⟨some 60, _, _, _, _, _⟩) (v := ?_) rfl (by kernel_rfl) (by kernel_rfl) (by kernel_rfl) (fun _ _ _ h => h) (Or.inl ⟨by kernel_rfl, ?hy17⟩) (by assumption) ?_
          case hy17 => (intro w' hSw; (try dsimp only at hSw); go_simp; try with_reducible rfl)
          simp only [Act.put, List.setIfInBounds_toArray, List.set_cons_zero, List.set_cons_succ]
          refine wpAnyH_take (i := 18) (oi := ⟨some 61, _, _, _, _, _⟩) (v := ?_) rfl (by kernel_rfl) (by kernel_rfl) (by kernel_rfl) (fun _ _ _ h => h) (Or.inl ⟨by kernel_rfl, ?hy18⟩) (by assumption) ?_
          case hy18 => (intro w' hSw; (try dsimp only at hSw); go_simp; try with_reducible rfl)
          simp only [Act.put, List.setIfInBounds_toArray, List.set_cons_zero, List.set_cons_succ]
          refine wpAnyH_ready (rs := [19]) (by kernel_rfl) (by simp) ?_
          refine AllReadyH.cons (o := ⟨some 62, _, _, _, _, _⟩) rfl (fun K hK => ?_) AllReadyH.nil
          (rw [if_pos (by kernel_rfl)])
          go_simp
          refine (HPl.out _).mono ?_; rintro e wp ⟨rfl, hbp⟩; have HBp := Lib.hid (HB9.out.trans (hbp.mono HB9.out.size)); have hkp := HKeep2.out _ _ hk9 hbp; clear hbp
          refine hK.out _ _ hkp (fun hHeld => ?_)
          clear hK K
          refine wpAnyH_take (i := 20) (oi := ⟨some 63, _, _, _, _, _⟩) (v := ?_) rfl (by kernel_rfl) (by kernel_rfl) (by kernel_rfl) (fun _ _ _ h => h) (Or.inl ⟨by kernel_rfl, ?hy20⟩) (by assumption) ?_
          case hy20 => (intro w' hSw; (try dsimp only at hSw); go_simp; try with_reducible rfl)
          simp only [Act.put, List.setIfInBounds_toArray, List.set_cons_zero, List.set_cons_succ]
          refine wpAnyH_take (i := 21) (oi := ⟨some 64, _, _, _, _, _⟩) (v := ?_) rfl (by kernel_rfl) (by kernel_rfl) (by kernel_rfl) (fun _ _ _ h => h) (Or.inl ⟨by kernel_rfl, ?hy21⟩) (by assumption) ?_
          case hy21 => (intro w' hSw; (try dsimp only at hSw); go_simp; try with_reducible rfl)
          simp only [Act.put, List.setIfInBounds_toArray, List.set_cons_zero, List.set_cons_succ]
          refine wpAnyH_take (i := 22) (oi := ⟨some 65, _, _, _, _, _⟩) (v := ?_) rfl (by kernel_rfl) (by kernel_rfl) (by kernel_rfl) (fun _ _ _ h => h) (Or.inl ⟨by kernel_rfl, ?hy22⟩) (by assumption) ?_
          case hy22 => (intro w' hSw; (try dsimp only at hSw); go_simp; try with_reducible rfl)
          simp only [Act.put, List.setIfInBounds_toArray, List.set_cons_zero, List.set_cons_succ]
          refine wpAnyH_take (i := 23) (oi := ⟨some 66, _, _, _, _, _⟩) (v := undef) rfl (by kernel_rfl) (by kernel_rfl) (by kernel_rfl) (fun _ _ _ h => h) (Or.inr ⟨by kernel_rfl, rfl⟩) (by assumption) ?_
          simp only [Act.put, List.setIfInBounds_toArray, List.set_cons_zero, List.set_cons_succ]
          refine wpAnyH_take (i := 24) (oi := ⟨some 67, _, _, _, _, _⟩) (v := undef) rfl (by kernel_rfl) (by kernel_rfl) (by kernel_rfl) (fun _ _ _ h => h) (Or.inr ⟨by kernel_rfl, rfl⟩) (by assumption) ?_
          simp only [Act.put, List.setIfInBounds_toArray, List.set_cons_zero, List.set_cons_succ]
          refine wpAnyH_take (i := 25) (oi := ⟨some 68, _, _, _, _, _⟩) (v := undef) rfl (by kernel_rfl) (by kernel_rfl) (by kernel_rfl) (fun _ _ _ h => h) (Or.inr ⟨by kernel_rfl, rfl⟩) (by assumption) ?_
          simp only [Act.put, List.setIfInBounds_toArray, List.set_cons_zero, List.set_cons_succ]
          refine wpAnyH_take (i := 26) (oi := ⟨some 69, _, _, _, _, _⟩) (v := undef) rfl (by kernel_rfl) (by kernel_rfl) (by kernel_rfl) (fun _ _ _ h => h) (Or.inr ⟨by kernel_rfl, rfl⟩) (by assumption) ?_
          simp only [Act.put, List.setIfInBounds_toArray, List.set_cons_zero, List.set_cons_succ]
          refine wpAnyH_take (i := 27) (oi := ⟨some 70, _, _, _, _, _⟩) (v := undef) rfl (by kernel_rfl) (by kernel_rfl) (by kernel_rfl) (fun _ _ _ h => h) (Or.inr ⟨by kernel_rfl, rfl⟩) (by assumption) ?_
          simp only [Act.put, List.setIfInBounds_toArray, List.set_cons_zero, List.set_cons_succ]
          refine wpAnyH_take (i := 28) (oi := ⟨some 71, _, _, _, _, _⟩) (v := undef) rfl (by kernel_rfl) (by kernel_rfl) (by kernel_rfl) (fun _ _ _ h => h) (Or.inr ⟨by kernel_rfl, rfl⟩) (by assumption) ?_
          simp only [Act.put, List.setIfInBounds_toArray, List.set_cons_zero, List.set_cons_succ]
          refine wpAnyH_take (i := 29) (oi := ⟨some 72, _, _, _, _, _⟩) (v := undef) rfl (by kernel_rfl) (by kernel_rfl) (by kernel_rfl) (fun _ _ _ h => h) (Or.inr ⟨by kernel_rfl, rfl⟩) (by assumption) ?_
          simp only [Act.put, List.setIfInBounds_toArray, List.set_cons_zero, List.set_cons_succ]
          refine wpAnyH_take (i := 30) (oi := ⟨some 73, _, _, _, _, _⟩) (v := undef) rfl (by kernel_rfl) (by kernel_rfl) (by kernel_rfl) (fun _ _ _ h => h) (Or.inr ⟨by kernel_rfl, rfl⟩) (by assumption) ?_
          simp only [Act.put, List.setIfInBounds_toArray, List.set_cons_zero, List.set_cons_succ]
          refine wpAnyH_take (i := 31) (oi := ⟨some 74, _, _, _, _, _⟩) (v := ?_) rfl (by kernel_rfl) (by kernel_rfl) (by kernel_rfl) (fun _ _ _ h => h) (Or.inl ⟨by kernel_rfl, ?hy31⟩) (by assumption) ?_
          case hy31 => (intro w' hSw; (try dsimp only at hSw); go_simp; try with_reducible rfl)
          simp only [Act.put, List.setIfInBounds_toArray, List.set_cons_zero, List.set_cons_succ]
          refine wpAnyH_take (i := 32) (oi := ⟨some 75, _, _, _, _, _⟩) (v := ?_) rfl (by kernel_rfl) (by kernel_rfl) (by kernel_rfl) (fun _ _ _ h => h) (Or.inl ⟨by kernel_rfl, ?hy32⟩) (by assumption) ?_
          case hy32 => (intro w' hSw; (try dsimp only at hSw); go_simp; try with_reducible rfl)
          simp only [Act.put, List.setIfInBounds_toArray, List.set_cons_zero, List.set_cons_succ]
          refine wpAnyH_take (i := 33) (oi := ⟨some 4, _, _, _, _, _⟩) (v := ?_) rfl (by kernel_rfl) (by kernel_rfl) (by kernel_rfl) (fun _ _ _ h => h) (Or.inl ⟨by kernel_rfl, ?hy33⟩) (by assumption) ?_
          case hy33 => (intro w' hSw; (try dsimp only at hSw); go_simp; try with_reducible rfl)
          simp only [Act.put, List.setIfInBounds_toArray, List.set_cons_zero, List.set_cons_succ]
          refine wpAnyH_done (by kernel_rfl) ?_ _
          go_wp2_with fail
          go_ret
          exact ⟨rfl, HBp.out⟩
        · try dsimp only at h1 h2
          injection h3 with h4 h5
          subst h1
          have h6 := h4.symm
          subst h6
          subst h5
          have h7 := h2.symm
          subst h7
          have hte : ((bs x).toList == (bs x).toList) = true := beq_self_eq_true _
          clear h4
          have hx8 := hx7b.below ((Below.refl _ w7).alloc (Nat.le_refl _) (.cells #[.string (bs x), .int .i64 (x.length : Int)] 44))
          have hd8 := BxA.new w7 44 [.string (bs x), .int .i64 (x.length : Int)]
          have hb8 := (HB6.out.below hb7).alloc (.cells #[.string (bs x), .int .i64 (x.length : Int)] 44)
          have hc8 := (HC6.out.below hb7).alloc (.cells #[.string (bs x), .int .i64 (x.length : Int)] 44)
          obtain ⟨w8, hw8⟩ : ∃ w8, w7.alloc (.cells #[.string (bs x), .int .i64 (x.length : Int)] 44) = w8 := ⟨_, rfl⟩
          rw [hw8] at hx8 hd8 hb8 hc8
          have HB8 := Lib.hid hx8.bel
          have j0 := hd8.c 0 rfl
          have j1 := hd8.c 1 rfl
          have k0 := hb8.c 0 rfl
          have k1 := hb8.c 1 rfl
          have q0 := hc8.c 0 rfl
          have HKeep : Hid (∀ W, Below w8.heap.size w8 W → (fun w' => w'.cell? ⟨w7.heap.size, 0, none⟩ = some (.string (bs x)) ∧ w'.cell? ⟨w7.heap.size, 1, none⟩ = some (.int .i64 (x.length : Int)) ∧ w'.cell? ⟨w3.heap.size, 0, none⟩ = some (.string (bs x)) ∧ w'.cell? ⟨w3.heap.size, 1, none⟩ = some (.int .i64 (x.length : Int)) ∧ w'.cell? ⟨w5.heap.size, 0, none⟩ = some (.string (bs x))) W) := Lib.hid (fun W hW => ⟨(hd8.below hW).c 0 rfl, (hd8.below hW).c 1 rfl, (hb8.below hW).c 0 rfl, (hb8.below hW).c 1 rfl, (hc8.below hW).c 0 rfl⟩)
          have HKeep2 : Hid (∀ W W', (fun w' => w'.cell? ⟨w7.heap.size, 0, none⟩ = some (.string (bs x)) ∧ w'.cell? ⟨w7.heap.size, 1, none⟩ = some (.int .i64 (x.length : Int)) ∧ w'.cell? ⟨w3.heap.size, 0, none⟩ = some (.string (bs x)) ∧ w'.cell? ⟨w3.heap.size, 1, none⟩ = some (.int .i64 (x.length : Int)) ∧ w'.cell? ⟨w5.heap.size, 0, none⟩ = some (.string (bs x))) W → Below W.heap.size W W' → (fun w' => w'.cell? ⟨w7.heap.size, 0, none⟩ = some (.string (bs x)) ∧ w'.cell? ⟨w7.heap.size, 1, none⟩ = some (.int .i64 (x.length : Int)) ∧ w'.cell? ⟨w3.heap.size, 0, none⟩ = some (.string (bs x)) ∧ w'.cell? ⟨w3.heap.size, 1, none⟩ = some (.int .i64 (x.length : Int)) ∧ w'.cell? ⟨w5.heap.size, 0, none⟩ = some (.string (bs x))) W') := Lib.hid (fun W W' h hW => ⟨(hW.cell (p := ⟨w7.heap.size, 0, none⟩) (World.block_lt_of_cell? _ _ h.1)).trans h.1, (hW.cell (p := ⟨w7.heap.size, 1, none⟩) (World.block_lt_of_cell? _ _ h.2.1)).trans h.2.1, (hW.cell (p := ⟨w3.heap.size, 0, none⟩) (World.block_lt_of_cell? _ _ h.2.2.1)).trans h.2.2.1, (hW.cell (p := ⟨w3.heap.size, 1, none⟩) (World.block_lt_of_cell? _ _ h.2.2.2.1)).trans h.2.2.2.1, (hW.cell (p := ⟨w5.heap.size, 0, none⟩) (World.block_lt_of_cell? _ _ h.2.2.2.2)).trans h.2.2.2.2⟩)
          have hqe := aeqT (bs x) (x.length : Int)
          clear hx7b hb7 hx8 hd8 hb8 hc8 HB6 HC6
          go_upto_region 8 with fail
          refine wp_region_held_drew (S := (fun w' => w'.cell? ⟨w7.heap.size, 0, none⟩ = some (.string (bs x)) ∧ w'.cell? ⟨w7.heap.size, 1, none⟩ = some (.int .i64 (x.length : Int)) ∧ w'.cell? ⟨w3.heap.size, 0, none⟩ = some (.string (bs x)) ∧ w'.cell? ⟨w3.heap.size, 1, none⟩ = some (.int .i64 (x.length : Int)) ∧ w'.cell? ⟨w5.heap.size, 0, none⟩ = some (.string (bs x)))) (by kernel_rfl) ⟨j0, j1, k0, k1, q0⟩ (fun hHeld => ?_)
          refine wpAnyH_ready (rs := [0]) (by kernel_rfl) (by simp) ?_
          refine AllReadyH.cons (o := ⟨some 43, _, _, _, _, _⟩) rfl (fun K hK => ?_) AllReadyH.nil
          (rw [if_pos (by kernel_rfl)])
          go_simp
          refine (aalive_calls _ (spans_below HS.out (HB8.out.drew))).mono ?_; rintro e w9 ⟨rfl, hb9⟩; have HB9 := Lib.hid (HB8.out.drew.trans (hb9.mono HB8.out.size)); have hk9 := HKeep.out _ ((Below.refl _ w8).drew.trans (hb9.mono (Nat.le_refl _))); clear hb9
          refine hK.out _ _ hk9 (fun hHeld => ?_)
          clear hK K
          refine wpAnyH_take (i := 1) (oi := ⟨some 44, _, _, _, _, _⟩) (v := ?_) rfl (by kernel_rfl) (by kernel_rfl) (by kernel_rfl) (fun _ _ _ h => h) (Or.inl ⟨by kernel_rfl, ?hy1⟩) (by assumption) ?_
          case hy1 => (intro w' hSw; (try dsimp only at hSw); go_simp; try with_reducible rfl)
          simp only [Act.put, List.setIfInBounds_toArray, List.set_cons_zero, List.set_cons_succ]
          refine wpAnyH_take (i := 2) (oi := ⟨some 45, _, _, _, _, _⟩) (v := ?_) rfl (by kernel_rfl) (by kernel_rfl) (by kernel_rfl) (fun _ _ _ h => h) (Or.inl ⟨by kernel_rfl, ?hy2⟩) (by assumption) ?_
          case hy2 => (intro w' hSw; (try dsimp only at hSw); go_simp; try with_reducible rfl)
          simp only [Act.put, List.setIfInBounds_toArray, List.set_cons_zero, List.set_cons_succ]
          refine wpAnyH_take (i := 3) (oi := ⟨some 46, _, _, _, _, _⟩) (v := ?_) rfl (by kernel_rfl) (by kernel_rfl) (by kernel_rfl) (fun _ _ _ h => h) (Or.inl ⟨by kernel_rfl, ?hy3⟩) (by assumption) ?_
          case hy3 => (intro w' hSw; (try dsimp only at hSw); go_simp; try with_reducible rfl)
          simp only [Act.put, List.setIfInBounds_toArray, List.set_cons_zero, List.set_cons_succ]
          refine wpAnyH_take (i := 4) (oi := ⟨some 47, _, _, _, _, _⟩) (v := ?_) rfl (by kernel_rfl) (by kernel_rfl) (by kernel_rfl) (fun _ _ _ h => h) (Or.inl ⟨by kernel_rfl, ?hy4⟩) (by assumption) ?_
          case hy4 => (intro w' hSw; (try dsimp only at hSw); go_simp; try with_reducible rfl)
          simp only [Act.put, List.setIfInBounds_toArray, List.set_cons_zero, List.set_cons_succ]
          refine wpAnyH_take (i := 5) (oi := ⟨some 48, _, _, _, _, _⟩) (v := ?_) rfl (by kernel_rfl) (by kernel_rfl) (by kernel_rfl) (fun _ _ _ h => h) (Or.inl ⟨by kernel_rfl, ?hy5⟩) (by assumption) ?_
          case hy5 => (intro w' hSw; (try dsimp only at hSw); go_simp; try with_reducible rfl)
          simp only [Act.put, List.setIfInBounds_toArray, List.set_cons_zero, List.set_cons_succ]
          refine wpAnyH_take (i := 6) (oi := ⟨some 49, _, _, _, _, _⟩) (v := ?_) rfl (by kernel_rfl) (by kernel_rfl) (by kernel_rfl) (fun _ _ _ h => h) (Or.inl ⟨by kernel_rfl, ?hy6⟩) (by assumption) ?_
          case hy6 => (intro w' hSw; (try dsimp only at hSw); go_simp; try with_reducible rfl)
          simp only [Act.put, List.setIfInBounds_toArray, List.set_cons_zero, List.set_cons_succ]
          refine wpAnyH_take (i := 7) (oi := ⟨some 50, _, _, _, _, _⟩) (v := ?_) rfl (by kernel_rfl) (by kernel_rfl) (by kernel_rfl) (fun _ _ _ h => h) (Or.inl ⟨by kernel_rfl, ?hy7⟩) (by assumption) ?_
          case hy7 => (intro w' hSw; (try dsimp only at hSw); go_simp; try with_reducible rfl)
          simp only [Act.put, List.setIfInBounds_toArray, List.set_cons_zero, List.set_cons_succ]
          refine wpAnyH_take (i := 8) (oi := ⟨some 51, _, _, _, _, _⟩) (v := ?_) rfl (by kernel_rfl) (by kernel_rfl) (by kernel_rfl) (fun _ _ _ h => h) (Or.inl ⟨by kernel_rfl, ?hy8⟩) (by assumption) ?_
          case hy8 => (intro w' hSw; (try dsimp only at hSw); go_simp; try with_reducible rfl)
          simp only [Act.put, List.setIfInBounds_toArray, List.set_cons_zero, List.set_cons_succ]
          refine wpAnyH_take (i := 9) (oi := ⟨some 52, _, _, _, _, _⟩) (v := ?_) rfl (by kernel_rfl) (by kernel_rfl) (by kernel_rfl) (fun _ _ _ h => h) (Or.inl ⟨by kernel_rfl, ?hy9⟩) (by assumption) ?_
          case hy9 => (intro w' hSw; (try dsimp only at hSw); go_simp; try with_reducible rfl)
          simp only [Act.put, List.setIfInBounds_toArray, List.set_cons_zero, List.set_cons_succ]
          refine wpAnyH_take (i := 10) (oi := ⟨some 53, _, _, _, _, _⟩) (v := ?_) rfl (by kernel_rfl) (by kernel_rfl) (by kernel_rfl) (fun _ _ _ h => h) (Or.inl ⟨by kernel_rfl, ?hy10⟩) (by assumption) ?_
          case hy10 => (intro w' hSw; (try dsimp only at hSw); go_simp; try with_reducible rfl)
          simp only [Act.put, List.setIfInBounds_toArray, List.set_cons_zero, List.set_cons_succ]
          refine wpAnyH_take (i := 11) (oi := ⟨some 54, _, _, _, _, _⟩) (v := ?_) rfl (by kernel_rfl) (by kernel_rfl) (by kernel_rfl) (fun _ _ _ h => h) (Or.inl ⟨by kernel_rfl, ?hy11⟩) (by assumption) ?_
          case hy11 => (intro w' hSw; (try dsimp only at hSw); go_simp; try with_reducible rfl)
          simp only [Act.put, List.setIfInBounds_toArray, List.set_cons_zero, List.set_cons_succ]
          refine wpAnyH_take (i := 12) (oi := ⟨some 55, _, _, _, _, _⟩) (v := ?_) rfl (by kernel_rfl) (by kernel_rfl) (by kernel_rfl) (fun _ _ _ h => h) (Or.inl ⟨by kernel_rfl, ?hy12⟩) (by assumption) ?_
          case hy12 => (intro w' hSw; (try dsimp only at hSw); go_simp; try with_reducible rfl)
          simp only [Act.put, List.setIfInBounds_toArray, List.set_cons_zero, List.set_cons_succ]
          refine wpAnyH_take (i := 13) (oi := ⟨some 56, _, _, _, _, _⟩) (v := ?_) rfl (by kernel_rfl) (by kernel_rfl) (by kernel_rfl) (fun _ _ _ h => h) (Or.inl ⟨by kernel_rfl, ?hy13⟩) (by assumption) ?_
          case hy13 => (intro w' hSw; (try dsimp only at hSw); go_simp; try with_reducible rfl)
          simp only [Act.put, List.setIfInBounds_toArray, List.set_cons_zero, List.set_cons_succ]
          refine wpAnyH_take (i := 14) (oi := ⟨some 57, _, _, _, _, _⟩) (v := ?_) rfl (by kernel_rfl) (by kernel_rfl) (by kernel_rfl) (fun _ _ _ h => h) (Or.inl ⟨by kernel_rfl, ?hy14⟩) (by assumption) ?_
          case hy14 => (intro w' hSw; (try dsimp only at hSw); go_simp; try with_reducible rfl)
          simp only [Act.put, List.setIfInBounds_toArray, List.set_cons_zero, List.set_cons_succ]
          refine wpAnyH_take (i := 15) (oi := ⟨some 58, _, _, _, _, _⟩) (v := ?_) rfl (by kernel_rfl) (by kernel_rfl) (by kernel_rfl) (fun _ _ _ h => h) (Or.inl ⟨by kernel_rfl, ?hy15⟩) (by assumption) ?_
          case hy15 => (intro w' hSw; (try dsimp only at hSw); go_simp; try with_reducible rfl)
          simp only [Act.put, List.setIfInBounds_toArray, List.set_cons_zero, List.set_cons_succ]
          refine wpAnyH_take (i := 16) (oi := ⟨some 59, _, _, _, _, _⟩) (v := undef) rfl (by kernel_rfl) (by kernel_rfl) (by kernel_rfl) (fun _ _ _ h => h) (Or.inr ⟨by kernel_rfl, rfl⟩) (by assumption) ?_
          simp only [Act.put, List.setIfInBounds_toArray, List.set_cons_zero, List.set_cons_succ]
          refine wpAnyH_take (i := 17) (oi := ⟨some 60, _, _, _, _, _⟩) (v := undef) rfl (by kernel_rfl) (by kernel_rfl) (by kernel_rfl) (fun _ _ _ h => h) (Or.inr ⟨by kernel_rfl, rfl⟩) (by assumption) ?_
          simp only [Act.put, List.setIfInBounds_toArray, List.set_cons_zero, List.set_cons_succ]
          refine wpAnyH_take (i := 18) (oi := ⟨some 61, _, _, _, _, _⟩) (v := undef) rfl (by kernel_rfl) (by kernel_rfl) (by kernel_rfl) (fun _ _ _ h => h) (Or.inr ⟨by kernel_rfl, rfl⟩) (by assumption) ?_
          simp only [Act.put, List.setIfInBounds_toArray, List.set_cons_zero, List.set_cons_succ]
          refine wpAnyH_take (i := 19) (oi := ⟨some 62, _, _, _, _, _⟩) (v := undef) rfl (by kernel_rfl) (by kernel_rfl) (by kernel_rfl) (fun _ _ _ h => h) (Or.inr ⟨by kernel_rfl, rfl⟩) (by assumption) ?_
          simp only [Act.put, List.setIfInBounds_toArray, List.set_cons_zero, List.set_cons_succ]
          refine wpAnyH_take (i := 20) (oi := ⟨some 63, _, _, _, _, _⟩) (v := undef) rfl (by kernel_rfl) (by kernel_rfl) (by kernel_rfl) (fun _ _ _ h => h) (Or.inr ⟨by kernel_rfl, rfl⟩) (by assumption) ?_
          simp only [Act.put, List.setIfInBounds_toArray, List.set_cons_zero, List.set_cons_succ]
          refine wpAnyH_take (i := 21) (oi := ⟨some 64, _, _, _, _, _⟩) (v := ?_) rfl (by kernel_rfl) (by kernel_rfl) (by kernel_rfl) (fun _ _ _ h => h) (Or.inl ⟨by kernel_rfl, ?hy21⟩) (by assumption) ?_
          case hy21 => (intro w' hSw; (try dsimp only at hSw); go_simp; try with_reducible rfl)
          simp only [Act.put, List.setIfInBounds_toArray, List.set_cons_zero, List.set_cons_succ]
          refine wpAnyH_take (i := 22) (oi := ⟨some 65, _, _, _, _, _⟩) (v := ?_) rfl (by kernel_rfl) (by kernel_rfl) (by kernel_rfl) (fun _ _ _ h => h) (Or.inl ⟨by kernel_rfl, ?hy22⟩) (by assumption) ?_
          case hy22 => (intro w' hSw; (try dsimp only at hSw); go_simp; try with_reducible rfl)
          simp only [Act.put, List.setIfInBounds_toArray, List.set_cons_zero, List.set_cons_succ]
          refine wpAnyH_take (i := 23) (oi := ⟨some 66, _, _, _, _, _⟩) (v := ?_) rfl (by kernel_rfl) (by kernel_rfl) (by kernel_rfl) (fun _ _ _ h => h) (Or.inl ⟨by kernel_rfl, ?hy23⟩) (by assumption) ?_
          case hy23 => (intro w' hSw; (try dsimp only at hSw); go_simp; try with_reducible rfl)
          simp only [Act.put, List.setIfInBounds_toArray, List.set_cons_zero, List.set_cons_succ]
          refine wpAnyH_take (i := 24) (oi := ⟨some 67, _, _, _, _, _⟩) (v := ?_) rfl (by kernel_rfl) (by kernel_rfl) (by kernel_rfl) (fun _ _ _ h => h) (Or.inl ⟨by kernel_rfl, ?hy24⟩) (by assumption) ?_
          case hy24 => (intro w' hSw; (try dsimp only at hSw); go_simp; try with_reducible rfl)
          simp only [Act.put, List.setIfInBounds_toArray, List.set_cons_zero, List.set_cons_succ]
          refine wpAnyH_take (i := 25) (oi := ⟨some 68, _, _, _, _, _⟩) (v := ?_) rfl (by kernel_rfl) (by kernel_rfl) (by kernel_rfl) (fun _ _ _ h => h) (Or.inl ⟨by kernel_rfl, ?hy25⟩) (by assumption) ?_
          case hy25 => (intro w' hSw; (try dsimp only at hSw); go_simp; try with_reducible rfl)
          simp only [Act.put, List.setIfInBounds_toArray, List.set_cons_zero, List.set_cons_succ]
          refine wpAnyH_take (i := 26) (oi := ⟨some 69, _, _, _, _, _⟩) (v := ?_) rfl (by kernel_rfl) (by kernel_rfl) (by kernel_rfl) (fun _ _ _ h => h) (Or.inl ⟨by kernel_rfl, ?hy26⟩) (by assumption) ?_
          case hy26 => (intro w' hSw; (try dsimp only at hSw); go_simp; try with_reducible rfl)
          simp only [Act.put, List.setIfInBounds_toArray, List.set_cons_zero, List.set_cons_succ]
          refine wpAnyH_take (i := 28) (oi := ⟨some 71, _, _, _, _, _⟩) (v := ?_) rfl (by kernel_rfl) (by kernel_rfl) (by kernel_rfl) (fun _ _ _ h => h) (Or.inl ⟨by kernel_rfl, ?hy28⟩) (by assumption) ?_
          case hy28 => (intro w' hSw; (try dsimp only at hSw); go_simp; try with_reducible rfl)
          simp only [Act.put, List.setIfInBounds_toArray, List.set_cons_zero, List.set_cons_succ]
          refine wpAnyH_ready (rs := [27]) (by kernel_rfl) (by simp) ?_
          refine AllReadyH.cons (o := ⟨some 70, _, _, _, _, _⟩) rfl (fun K hK => ?_) AllReadyH.nil
          (rw [if_pos (by kernel_rfl)])
          go_simp
          refine (HPl.out _).mono ?_; rintro e wp ⟨rfl, hbp⟩; have HBp := Lib.hid (HB9.out.trans (hbp.mono HB9.out.size)); have hkp := HKeep2.out _ _ hk9 hbp; clear hbp
          refine hK.out _ _ hkp (fun hHeld => ?_)
          clear hK K
          refine wpAnyH_take (i := 29) (oi := ⟨some 72, _, _, _, _, _⟩) (v := ?_) rfl (by kernel_rfl) (by kernel_rfl) (by kernel_rfl) (fun _ _ _ h => h) (Or.inl ⟨by kernel_rfl, ?hy29⟩) (by assumption) ?_
          case hy29 => (intro w' hSw; (try dsimp only at hSw); go_simp; try with_reducible rfl)
          simp only [Act.put, List.setIfInBounds_toArray, List.set_cons_zero, List.set_cons_succ]
          refine wpAnyH_take (i := 30) (oi := ⟨some 73, _, _, _, _, _⟩) (v := ?_) rfl (by kernel_rfl) (by kernel_rfl) (by kernel_rfl) (fun _ _ _ h => h) (Or.inl ⟨by kernel_rfl, ?hy30⟩) (by assumption) ?_
          case hy30 => (intro w' hSw; (try dsimp only at hSw); go_simp; try with_reducible rfl)
          simp only [Act.put, List.setIfInBounds_toArray, List.set_cons_zero, List.set_cons_succ]
          refine wpAnyH_take (i := 31) (oi := ⟨some 74, _, _, _, _, _⟩) (v := ?_) rfl (by kernel_rfl) (by kernel_rfl) (by kernel_rfl) (fun _ _ _ h => h) (Or.inl ⟨by kernel_rfl, ?hy31⟩) (by assumption) ?_
          case hy31 => (intro w' hSw; (try dsimp only at hSw); go_simp; try with_reducible rfl)
          simp only [Act.put, List.setIfInBounds_toArray, List.set_cons_zero, List.set_cons_succ]
          refine wpAnyH_take (i := 32) (oi := ⟨some 75, _, _, _, _, _⟩) (v := ?_) rfl (by kernel_rfl) (by kernel_rfl) (by kernel_rfl) (fun _ _ _ h => h) (Or.inl ⟨by kernel_rfl, ?hy32⟩) (by assumption) ?_
          case hy32 => (intro w' hSw; (try dsimp only at hSw); go_simp; try with_reducible rfl)
          simp only [Act.put, List.setIfInBounds_toArray, List.set_cons_zero, List.set_cons_succ]
          refine wpAnyH_take (i := 33) (oi := ⟨some 4, _, _, _, _, _⟩) (v := ?_) rfl (by kernel_rfl) (by kernel_rfl) (by kernel_rfl) (fun _ _ _ h => h) (Or.inl ⟨by kernel_rfl, ?hy33⟩) (by assumption) ?_
          case hy33 => (intro w' hSw; (try dsimp only at hSw); go_simp; try with_reducible rfl)
          simp only [Act.put, List.setIfInBounds_toArray, List.set_cons_zero, List.set_cons_succ]
          refine wpAnyH_done (by kernel_rfl) ?_ _
          go_wp2_with fail
          go_ret
          exact ⟨rfl, HBp.out⟩
      · have hr : ∃ z : Int, (setR [] n t).2 = z ∧ z ≠ 0 := by
          by_cases hnm : nameB n = true
          · exact ⟨30, by rw [setR_long hnm (by have : ¬ (plainL (bl t)).length ≤ 100 := fun e => hok ⟨hnm, e⟩; omega)], by decide⟩
          · exact ⟨80, by rw [setR_name (by simpa using hnm)], by decide⟩
        obtain ⟨z, hz, hz0⟩ := hr
        have qz : (z != 0) = true := bne_iff_ne.2 hz0
        have HZ := Lib.hid hz
        clear hok hz hz0 h1 h2
        go_enter Tryd.func5, Tryd.ntmps5
        go_wp2_with fail
        refine (HT1.out.turn (P := Tryd.prog) (f := 13) (args := #[.pointer (some ⟨w.heap.size, 0, none⟩), .string n, .string t]) (E := fun e => e = .returned (.int .i64 z)) (l' := (setR [] n t).1) (fun O hO => by
          have := tset_calls _ O _ [] hO n t (by omega) (by omega)
          rw [HZ.out] at this
          exact this)).mono ?_
        rintro e w2 ⟨rfl, hx2, _⟩
        have HX2 := Lib.hid hx2
        clear hx2 HT1
        go_wp2_with fail
        refine (aalive_calls w2 (spans_below HS.out HX2.out.bel)).mono ?_
        rintro e w9 ⟨rfl, hb9⟩
        have HB9 := Lib.hid (HX2.out.bel.trans (hb9.mono (HX2.out.bel).size))
        clear hb9
        go_wp2_with fail
        go_ret
        exact ⟨rfl, HB9.out⟩
end Go.Proofs.YthifdojbbbnpaaaDoor
