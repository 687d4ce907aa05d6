/-
  The document's own Do.
-/
import Derived.Test.YtdpijbaolaignaaRRef
import Derived.Deep.RegionHeld3
namespace Go.Proofs.Ytdpijbaolaignaa
open Go Go.RowKit
set_option maxRecDepth 100000

set_option maxHeartbeats 4000000 in
theorem rdo_some (g o : Nat) (c : Nat) (s : RS ByteArray) (t x : ByteArray) (tl : List ByteArray) (w : World) (h : DocAt w (some ⟨g, o, none⟩) c s) (hok : s.Ok) (hl : s.l = x :: tl) (hx : w.cell? ⟨g, o, none⟩ = some (.string x)) (hg : g < w.heap.size) (hxt : ¬ 9223372036854775807 < x.size + t.size) :
    Calls Try.prog 14 #[docV (some ⟨g, o, none⟩) c s, .agg #[.int .i64 1, .string t]] w (Did w (some ⟨g, o, none⟩) (doR s ⟨1, t⟩)) := by
  have hle := hok.le
  have hln := hok.len
  have hcap := h.cap
  have hn1 : s.l.length = tl.length + 1 := by rw [hl]; rfl
  obtain ⟨W3, hW3⟩ : ∃ W3, ((w.alloc (.cells #[.int .i64 (s.lim : Int), .slice (some ⟨g, o, none⟩) s.l.length c, .int .i64 (s.i : Int)] 29)).alloc (.cells #[.int .i64 1, .string t] 32)).alloc (.cells #[.int .i64 0, .slice none 0 0, .int .i64 0] 29) = W3 := ⟨_, rfl⟩
  have hs3 : W3.heap.size = w.heap.size + 1 + 1 + 1 := by rw [← hW3]; simp
  have hB3 : Below w.heap.size w W3 := by
    rw [← hW3]
    exact (((Below.refl _ w).alloc (Nat.le_refl _) _).alloc (by simp) _).alloc (by simp; omega) _
  have b0 := ((Bx3.new w 29 (.int .i64 (s.lim : Int)) (.slice (some ⟨g, o, none⟩) s.l.length c) (.int .i64 (s.i : Int))).alloc (.cells #[.int .i64 1, .string t] 32)).alloc (.cells #[.int .i64 0, .slice none 0 0, .int .i64 0] 29)
  have o0 := (Bx.new (w.alloc (.cells #[.int .i64 (s.lim : Int), .slice (some ⟨g, o, none⟩) s.l.length c, .int .i64 (s.i : Int)] 29)) 32 (.int .i64 1) (.string t)).alloc (.cells #[.int .i64 0, .slice none 0 0, .int .i64 0] 29)
  have z0 := Bx3.new ((w.alloc (.cells #[.int .i64 (s.lim : Int), .slice (some ⟨g, o, none⟩) s.l.length c, .int .i64 (s.i : Int)] 29)).alloc (.cells #[.int .i64 1, .string t] 32)) 29 (.int .i64 0) (.slice none 0 0) (.int .i64 0)
  simp only [World.size_alloc] at z0 o0
  rw [hW3] at b0 z0 o0
  have hx3 := (hB3.cell (p := ⟨g, o, none⟩) hg).trans hx
  have rtl : ∀ A1 : Option Addr, (c ≠ 1 → A1 = some ⟨g, o + 1, none⟩) → RdV Value.string W3 A1 tl := fun A1 hA1 hn => by
    have h1 := (h.rd.below hB3).tail
    rw [hl] at h1
    rw [hA1 (by omega)]
    exact h1 hn
  have happ : ∀ A1 : Option Addr, (c ≠ 1 → A1 = some ⟨g, o + 1, none⟩) → A1 ≠ none → _ := fun A1 hA1 hne => run_app1 W3.drew A1 (s.l.length - 1) (c - 1) (x ++ t) tl (by omega) (rtl A1 hA1).drew (fun e => absurd e hne) (by omega)
  have Happ := Lib.hid happ
  have hxw := hx
  have fin : ∀ (w4 : World) (A' : Option Addr) (m c' : Nat), Bx3 w4 w.heap.size 29 (.int .i64 (s.lim : Int)) (.slice (some ⟨g, o, none⟩) s.l.length c) (.int .i64 (s.i : Int)) → Bx3 w4 (w.heap.size + 1 + 1) 29 (.int .i64 0) (.slice none 0 0) (.int .i64 0) → Below w.heap.size w w4 → RdV Value.string w4 A' ((x ++ t) :: tl) → m ≤ c' → c' ≤ maxLen → (A' = none → c' = 0) → (∀ a, A' = some a → w.heap.size + 3 ≤ a.block ∧ a.block < w4.heap.size) → m = tl.length + 1 →
      Bx3 (((((w4.setCell ⟨w.heap.size, 1, none⟩ (.slice A' m c')).setCell ⟨w.heap.size, 2, none⟩ (.int .i64 0)).setCell ⟨w.heap.size + 1 + 1, 0, none⟩ (.int .i64 (s.lim : Int))).setCell ⟨w.heap.size + 1 + 1, 1, none⟩ (.slice A' m c')).setCell ⟨w.heap.size + 1 + 1, 2, none⟩ (.int .i64 0)) (w.heap.size + 1 + 1) 29 (.int .i64 (s.lim : Int)) (.slice A' m c') (.int .i64 0) ∧
      Did w (some ⟨g, o, none⟩) (doR s ⟨1, t⟩) (.returned (.agg #[.int .i64 (s.lim : Int), .slice A' m c', .int .i64 0])) (((((w4.setCell ⟨w.heap.size, 1, none⟩ (.slice A' m c')).setCell ⟨w.heap.size, 2, none⟩ (.int .i64 0)).setCell ⟨w.heap.size + 1 + 1, 0, none⟩ (.int .i64 (s.lim : Int))).setCell ⟨w.heap.size + 1 + 1, 1, none⟩ (.slice A' m c')).setCell ⟨w.heap.size + 1 + 1, 2, none⟩ (.int .i64 0)) := by
    intro w4 A' m c' b4 z4 hBw hrd hc hm hn hfr hmm
    have ed : doR s ⟨1, t⟩ = ⟨s.lim, (x ++ t) :: tl, 0⟩ := by
      unfold doR RS.change
      simp only [if_neg (show ¬ (1 : Int) = 0 by decide), if_true, hl]
      rfl
    have hO : Only (fun i => i = w.heap.size ∨ i = w.heap.size + 1 + 1) w4 (((((w4.setCell ⟨w.heap.size, 1, none⟩ (.slice A' m c')).setCell ⟨w.heap.size, 2, none⟩ (.int .i64 0)).setCell ⟨w.heap.size + 1 + 1, 0, none⟩ (.int .i64 (s.lim : Int))).setCell ⟨w.heap.size + 1 + 1, 1, none⟩ (.slice A' m c')).setCell ⟨w.heap.size + 1 + 1, 2, none⟩ (.int .i64 0)) :=
      (((((Only.refl _ w4).set (p := ⟨w.heap.size, 1, none⟩) (.inl (.inl rfl)) _).set (p := ⟨w.heap.size, 2, none⟩) (.inl (.inl rfl)) _).set (p := ⟨w.heap.size + 1 + 1, 0, none⟩) (.inl (.inr rfl)) _).set (p := ⟨w.heap.size + 1 + 1, 1, none⟩) (.inl (.inr rfl)) _).set (p := ⟨w.heap.size + 1 + 1, 2, none⟩) (.inl (.inr rfl)) _
    rw [ed]
    refine ⟨((((z4.other (by omega) _).other (by omega) _).set0 _).set1 _).set2 _, A', c', ?_, ⟨?_, ?_, hm, hn⟩, fun a ha => .inr (by have := hfr a ha; have := hO.size; omega), hBw.trans (hO.below hBw.size (fun i hi => by omega))⟩
    · rw [hmm]; rfl
    · refine RdV.keep (ls := (x ++ t) :: tl) hrd hO (fun a ha hx => ?_)
      have := hfr a ha
      omega
    · show ((x ++ t) :: tl).length ≤ c'
      rw [List.length_cons, ← hmm]; exact hc
  have Fin := Lib.hid fin
  have w0 := b0.c0
  have w1 := b0.c1
  have w2 := b0.c2
  have v1 := b0.f1
  have v2 := b0.f2
  have o1 := o0.c1
  have o2 := o0.c0
  have Hb0 := Lib.hid b0
  have Hz0 := Lib.hid z0
  have Hh := Lib.hid h
  have Hok := Lib.hid hok
  have HB3 := Lib.hid hB3
  have Hl := Lib.hid hl
  have hpos : (0 : Int) < (s.l.length : Int) := by omega
  have h1c : 1 ≤ c := by omega
  have hn1' : (1 : Int) ≤ (s.l.length : Int) := by omega
  have Hn1 := Lib.hid hn1
  have hxb : (W3.alloc (.cells #[.string (x ++ t)] 9)).cell? ⟨g, o, none⟩ = some (.string x) := by rw [World.cell?_alloc_some _ _ _ (by rw [hx3]; rfl)]; exact hx3
  have hob : (W3.alloc (.cells #[.string (x ++ t)] 9)).cell? ⟨w.heap.size + 1, 1, none⟩ = some (.string t) := by rw [World.cell?_alloc_some _ _ _ (by rw [o1]; rfl)]; exact o1
  have hwb : (W3.alloc (.cells #[.string (x ++ t)] 9)).cell? ⟨w.heap.size, 1, none⟩ = some (.slice (some ⟨g, o, none⟩) s.l.length c) := by rw [World.cell?_alloc_some _ _ _ (by rw [w1]; rfl)]; exact w1
  clear b0 z0 o0 h hok hB3 hl hx rtl happ hn1 fin
  unfold docV
  go_enter Try.func14, Try.ntmps14
  go_wp2_with fail
  clear hW3
  by_cases hc1 : c = 1
  · subst hc1
    obtain ⟨A', c', w4, hrun, hB4, hrd4, hc4, hm4, hn4, hfr⟩ := Happ.out (some ⟨g, o, none⟩) (fun e => absurd rfl e) (fun e => by cases e)
    obtain ⟨m, hm0⟩ : ∃ m, 1 + (s.l.length - 1) = m := ⟨_, rfl⟩
    have hmm : m = tl.length + 1 := by have := Hn1.out; omega
    rw [hm0] at hrun hc4
    have ez : s.l.length - 1 = 0 := by omega
    rw [ez, show 1 - 1 = 0 from rfl] at hrun
    rw [show W3.drew.heap.size = w.heap.size + 1 + 1 + 1 from hs3] at hrun
    have Hrun := Lib.hid hrun
    have hB4 : Below W3.heap.size W3 w4 := ⟨hB4.os, hB4.tape, hB4.output, hB4.size, hB4.block⟩
    have hfr : ∀ a, A' = some a → W3.heap.size ≤ a.block ∧ a.block < w4.heap.size := hfr
    have hBw : Below w.heap.size w w4 := HB3.out.trans (hB4.mono HB3.out.size)
    have b4 : Bx3 w4 w.heap.size 29 _ _ _ := Hb0.out.below hB4
    have z4 : Bx3 w4 (w.heap.size + 1 + 1) 29 _ _ _ := Hz0.out.below hB4
    have hx4 : w4.cell? ⟨g, o, none⟩ = some (.string x) := (hBw.cell (p := ⟨g, o, none⟩) hg).trans hxw
    have ho4 : w4.cell? ⟨w.heap.size + 1, 1, none⟩ = some (.string t) := hB4.cell (p := ⟨w.heap.size + 1, 1, none⟩) (by show w.heap.size + 1 < W3.heap.size; omega) |>.trans o1
    have hx5 : (w4.setCell ⟨w.heap.size, 1, none⟩ (.slice A' m c')).cell? ⟨g, o, none⟩ = some (.string x) := by rw [World.cell?_setCell_far _ _ _ _ (by simp; omega)]; exact hx4
    have ho5 : (w4.setCell ⟨w.heap.size, 1, none⟩ (.slice A' m c')).cell? ⟨w.heap.size + 1, 1, none⟩ = some (.string t) := by rw [World.cell?_setCell_far _ _ _ _ (by simp)]; exact ho4
    have e0 := b4.c0
    have e1 := b4.c1
    have e2 := b4.c2
    have f1 := b4.f1
    have f2 := b4.f2
    have g0 := z4.c0
    have g1 := z4.c1
    have g2 := z4.c2
    have k0 := z4.f0
    have k1 := z4.f1
    have k2 := z4.f2
    have Hf := Lib.hid (Fin.out w4 A' m c' b4 z4 hBw hrd4 hc4 hm4 hn4 (fun a ha => by have := hfr a ha; omega) hmm)
    clear b4 z4 hBw hrd4 hfr hB4
    clear hrun ez hm0 hmm
    refine wp_region_held_drew (S := fun w' => w'.cell? ⟨g, o, none⟩ = some (.string x) ∧ w'.cell? ⟨w.heap.size + 1, 1, none⟩ = some (.string t)) (by kernel_rfl) ⟨hx3, o1⟩ (fun hHeld => ?_)
    refine wpAnyH_take (i := 0) (oi := ⟨some 34, _, _, _, _, _⟩) (v := ?_) rfl (by kernel_rfl) (by kernel_rfl) (by kernel_rfl) (fun _ _ _ h => h) (Or.inl ⟨by kernel_rfl, ?hy0⟩) (by assumption) ?_
    case hy0 => (intro w' hSw; (try dsimp only at hSw); go_simp; try with_reducible rfl)
    simp only [Act.put, List.setIfInBounds_toArray, List.set_cons_zero, List.set_cons_succ]
    refine wpAnyH_take (i := 4) (oi := ⟨some 38, _, _, _, _, _⟩) (v := ?_) rfl (by kernel_rfl) (by kernel_rfl) (by kernel_rfl) (fun _ _ _ h => h) (Or.inl ⟨by kernel_rfl, ?hy4⟩) (by assumption) ?_
    case hy4 => (intro w' hSw; (try dsimp only at hSw); go_simp; try with_reducible rfl)
    simp only [Act.put, List.setIfInBounds_toArray, List.set_cons_zero, List.set_cons_succ]
    refine wpAnyH_take (i := 8) (oi := ⟨some 42, _, _, _, _, _⟩) (v := ?_) rfl (by kernel_rfl) (by kernel_rfl) (by kernel_rfl) (fun _ _ _ h => h) (Or.inl ⟨by kernel_rfl, ?hy8⟩) (by assumption) ?_
    case hy8 => (intro w' hSw; (try dsimp only at hSw); go_simp; try with_reducible rfl)
    simp only [Act.put, List.setIfInBounds_toArray, List.set_cons_zero, List.set_cons_succ]
    refine wpAnyH_take (i := 5) (oi := ⟨some 39, _, _, _, _, _⟩) (v := ?_) rfl (by kernel_rfl) (by kernel_rfl) (by kernel_rfl) (fun _ _ _ h => h) (Or.inl ⟨by kernel_rfl, ?hy5⟩) (by assumption) ?_
    case hy5 => (intro w' hSw; (try dsimp only at hSw); go_simp; try with_reducible rfl)
    simp only [Act.put, List.setIfInBounds_toArray, List.set_cons_zero, List.set_cons_succ]
    refine wpAnyH_ready (rs := [1, 9]) (by kernel_rfl) (by simp) ?_
    refine AllReadyH.cons (o := ⟨some 35, _, _, _, _, _⟩) rfl (fun K hK => ?_) (AllReadyH.cons (o := ⟨some 43, _, _, _, _, _⟩) rfl (fun K hK => ?_) AllReadyH.nil)
    · (rw [if_pos (by kernel_rfl)])
      go_simp
      refine hK.out _ _ ⟨hx3, o1⟩ (fun hHeld => ?_)
      clear hK K
      refine wpAnyH_take (i := 2) (oi := ⟨some 36, _, _, _, _, _⟩) (v := ?_) rfl (by kernel_rfl) (by kernel_rfl) (by kernel_rfl) (fun _ _ _ h => h) (Or.inl ⟨by kernel_rfl, ?hy2⟩) (by assumption) ?_
      case hy2 => (intro w' hSw; (try dsimp only at hSw); go_simp; try with_reducible rfl)
      simp only [Act.put, List.setIfInBounds_toArray, List.set_cons_zero, List.set_cons_succ]
      refine wpAnyH_take (i := 3) (oi := ⟨some 37, _, _, _, _, _⟩) (v := ?_) rfl (by kernel_rfl) (by kernel_rfl) (by kernel_rfl) (fun _ _ _ h => h) (Or.inl ⟨by kernel_rfl, ?hy3⟩) (by assumption) ?_
      case hy3 => (intro w' hSw; (try dsimp only at hSw); go_simp; try with_reducible rfl)
      simp only [Act.put, List.setIfInBounds_toArray, List.set_cons_zero, List.set_cons_succ]
      refine wpAnyH_take (i := 6) (oi := ⟨some 40, _, _, _, _, _⟩) (v := ?_) rfl (by kernel_rfl) (by kernel_rfl) (by kernel_rfl) (fun _ _ _ h => h) (Or.inl ⟨by kernel_rfl, ?hy6⟩) (by assumption) ?_
      case hy6 => (intro w' hSw; (try dsimp only at hSw); go_simp; try with_reducible rfl)
      simp only [Act.put, List.setIfInBounds_toArray, List.set_cons_zero, List.set_cons_succ]
      refine wpAnyH_ready (rs := [7, 9]) (by kernel_rfl) (by simp) ?_
      refine AllReadyH.cons (o := ⟨some 41, _, _, _, _, _⟩) rfl (fun K hK => ?_) (AllReadyH.cons (o := ⟨some 43, _, _, _, _, _⟩) rfl (fun K hK => ?_) AllReadyH.nil)
      · (rw [if_pos (by kernel_rfl)])
        go_simp
        refine hK.out _ _ ⟨hxb, hob⟩ (fun hHeld => ?_)
        clear hK K
        refine wpAnyH_ready (rs := [9]) (by kernel_rfl) (by simp) ?_
        refine AllReadyH.cons (o := ⟨some 43, _, _, _, _, _⟩) rfl (fun K hK => ?_) AllReadyH.nil
        (rw [if_pos (by kernel_rfl)])
        go_simp
        refine hK.out _ _ ⟨hxb, hob⟩ (fun hHeld => ?_)
        clear hK K
        refine wpAnyH_take (i := 10) (oi := ⟨some 44, _, _, _, _, _⟩) (v := ?_) rfl (by kernel_rfl) (by kernel_rfl) (by kernel_rfl) (fun _ _ _ h => h) (Or.inl ⟨by kernel_rfl, ?hy10⟩) (by assumption) ?_
        case hy10 => (intro w' hSw; (try dsimp only at hSw); go_simp; try with_reducible rfl)
        simp only [Act.put, List.setIfInBounds_toArray, List.set_cons_zero, List.set_cons_succ]
        refine wpAnyH_ready (rs := [11]) (by kernel_rfl) (by simp) ?_
        refine AllReadyH.cons (o := ⟨some 45, _, _, _, _, _⟩) rfl (fun K hK => ?_) AllReadyH.nil
        refine step_append_g (by kernel_rfl) (.tmp 41) (.tmp 44) 27 rfl _ _ rfl rfl Hrun.out ?_
        refine hK.out _ _ ⟨hx4, ho4⟩ (fun hHeld => ?_)
        clear hK K
        refine wpAnyH_take (i := 12) (oi := ⟨some 46, _, _, _, _, _⟩) (v := ?_) rfl (by kernel_rfl) (by kernel_rfl) (by kernel_rfl) (fun _ _ _ h => h) (Or.inl ⟨by kernel_rfl, ?hy12⟩) (by assumption) ?_
        case hy12 => (intro w' hSw; (try dsimp only at hSw); go_simp; try with_reducible rfl)
        simp only [Act.put, List.setIfInBounds_toArray, List.set_cons_zero, List.set_cons_succ]
        refine wpAnyH_ready (rs := [13]) (by kernel_rfl) (by simp) ?_
        refine AllReadyH.cons (o := ⟨none, _, _, _, _, _⟩) rfl (fun K hK => ?_) AllReadyH.nil
        (rw [if_pos (by kernel_rfl)])
        go_simp
        refine hK.out _ _ ⟨hx5, ho5⟩ (fun hHeld => ?_)
        clear hK K
        refine wpAnyH_done (by kernel_rfl) ?_ _
        go_wp2
        exact bodyPost_ret (results_bx3 rfl _ _ (w.heap.size + 1 + 1) _ _ _ 29 rfl Hf.out.1 Try.underlying29 (sizeState _)) rfl Hf.out.2
      · (rw [if_pos (by kernel_rfl)])
        go_simp
        refine hK.out _ _ ⟨hx3, o1⟩ (fun hHeld => ?_)
        clear hK K
        refine wpAnyH_take (i := 10) (oi := ⟨some 44, _, _, _, _, _⟩) (v := ?_) rfl (by kernel_rfl) (by kernel_rfl) (by kernel_rfl) (fun _ _ _ h => h) (Or.inl ⟨by kernel_rfl, ?hy10⟩) (by assumption) ?_
        case hy10 => (intro w' hSw; (try dsimp only at hSw); go_simp; try with_reducible rfl)
        simp only [Act.put, List.setIfInBounds_toArray, List.set_cons_zero, List.set_cons_succ]
        refine wpAnyH_ready (rs := [7]) (by kernel_rfl) (by simp) ?_
        refine AllReadyH.cons (o := ⟨some 41, _, _, _, _, _⟩) rfl (fun K hK => ?_) AllReadyH.nil
        (rw [if_pos (by kernel_rfl)])
        go_simp
        refine hK.out _ _ ⟨hxb, hob⟩ (fun hHeld => ?_)
        clear hK K
        refine wpAnyH_ready (rs := [11]) (by kernel_rfl) (by simp) ?_
        refine AllReadyH.cons (o := ⟨some 45, _, _, _, _, _⟩) rfl (fun K hK => ?_) AllReadyH.nil
        refine step_append_g (by kernel_rfl) (.tmp 41) (.tmp 44) 27 rfl _ _ rfl rfl Hrun.out ?_
        refine hK.out _ _ ⟨hx4, ho4⟩ (fun hHeld => ?_)
        clear hK K
        refine wpAnyH_take (i := 12) (oi := ⟨some 46, _, _, _, _, _⟩) (v := ?_) rfl (by kernel_rfl) (by kernel_rfl) (by kernel_rfl) (fun _ _ _ h => h) (Or.inl ⟨by kernel_rfl, ?hy12⟩) (by assumption) ?_
        case hy12 => (intro w' hSw; (try dsimp only at hSw); go_simp; try with_reducible rfl)
        simp only [Act.put, List.setIfInBounds_toArray, List.set_cons_zero, List.set_cons_succ]
        refine wpAnyH_ready (rs := [13]) (by kernel_rfl) (by simp) ?_
        refine AllReadyH.cons (o := ⟨none, _, _, _, _, _⟩) rfl (fun K hK => ?_) AllReadyH.nil
        (rw [if_pos (by kernel_rfl)])
        go_simp
        refine hK.out _ _ ⟨hx5, ho5⟩ (fun hHeld => ?_)
        clear hK K
        refine wpAnyH_done (by kernel_rfl) ?_ _
        go_wp2
        exact bodyPost_ret (results_bx3 rfl _ _ (w.heap.size + 1 + 1) _ _ _ 29 rfl Hf.out.1 Try.underlying29 (sizeState _)) rfl Hf.out.2
    · (rw [if_pos (by kernel_rfl)])
      go_simp
      refine hK.out _ _ ⟨hx3, o1⟩ (fun hHeld => ?_)
      clear hK K
      refine wpAnyH_take (i := 10) (oi := ⟨some 44, _, _, _, _, _⟩) (v := ?_) rfl (by kernel_rfl) (by kernel_rfl) (by kernel_rfl) (fun _ _ _ h => h) (Or.inl ⟨by kernel_rfl, ?hy10⟩) (by assumption) ?_
      case hy10 => (intro w' hSw; (try dsimp only at hSw); go_simp; try with_reducible rfl)
      simp only [Act.put, List.setIfInBounds_toArray, List.set_cons_zero, List.set_cons_succ]
      refine wpAnyH_ready (rs := [1]) (by kernel_rfl) (by simp) ?_
      refine AllReadyH.cons (o := ⟨some 35, _, _, _, _, _⟩) rfl (fun K hK => ?_) AllReadyH.nil
      (rw [if_pos (by kernel_rfl)])
      go_simp
      refine hK.out _ _ ⟨hx3, o1⟩ (fun hHeld => ?_)
      clear hK K
      refine wpAnyH_take (i := 2) (oi := ⟨some 36, _, _, _, _, _⟩) (v := ?_) rfl (by kernel_rfl) (by kernel_rfl) (by kernel_rfl) (fun _ _ _ h => h) (Or.inl ⟨by kernel_rfl, ?hy2⟩) (by assumption) ?_
      case hy2 => (intro w' hSw; (try dsimp only at hSw); go_simp; try with_reducible rfl)
      simp only [Act.put, List.setIfInBounds_toArray, List.set_cons_zero, List.set_cons_succ]
      refine wpAnyH_take (i := 3) (oi := ⟨some 37, _, _, _, _, _⟩) (v := ?_) rfl (by kernel_rfl) (by kernel_rfl) (by kernel_rfl) (fun _ _ _ h => h) (Or.inl ⟨by kernel_rfl, ?hy3⟩) (by assumption) ?_
      case hy3 => (intro w' hSw; (try dsimp only at hSw); go_simp; try with_reducible rfl)
      simp only [Act.put, List.setIfInBounds_toArray, List.set_cons_zero, List.set_cons_succ]
      refine wpAnyH_take (i := 6) (oi := ⟨some 40, _, _, _, _, _⟩) (v := ?_) rfl (by kernel_rfl) (by kernel_rfl) (by kernel_rfl) (fun _ _ _ h => h) (Or.inl ⟨by kernel_rfl, ?hy6⟩) (by assumption) ?_
      case hy6 => (intro w' hSw; (try dsimp only at hSw); go_simp; try with_reducible rfl)
      simp only [Act.put, List.setIfInBounds_toArray, List.set_cons_zero, List.set_cons_succ]
      refine wpAnyH_ready (rs := [7]) (by kernel_rfl) (by simp) ?_
      refine AllReadyH.cons (o := ⟨some 41, _, _, _, _, _⟩) rfl (fun K hK => ?_) AllReadyH.nil
      (rw [if_pos (by kernel_rfl)])
      go_simp
      refine hK.out _ _ ⟨hxb, hob⟩ (fun hHeld => ?_)
      clear hK K
      refine wpAnyH_ready (rs := [11]) (by kernel_rfl) (by simp) ?_
      refine AllReadyH.cons (o := ⟨some 45, _, _, _, _, _⟩) rfl (fun K hK => ?_) AllReadyH.nil
      refine step_append_g (by kernel_rfl) (.tmp 41) (.tmp 44) 27 rfl _ _ rfl rfl Hrun.out ?_
      refine hK.out _ _ ⟨hx4, ho4⟩ (fun hHeld => ?_)
      clear hK K
      refine wpAnyH_take (i := 12) (oi := ⟨some 46, _, _, _, _, _⟩) (v := ?_) rfl (by kernel_rfl) (by kernel_rfl) (by kernel_rfl) (fun _ _ _ h => h) (Or.inl ⟨by kernel_rfl, ?hy12⟩) (by assumption) ?_
      case hy12 => (intro w' hSw; (try dsimp only at hSw); go_simp; try with_reducible rfl)
      simp only [Act.put, List.setIfInBounds_toArray, List.set_cons_zero, List.set_cons_succ]
      refine wpAnyH_ready (rs := [13]) (by kernel_rfl) (by simp) ?_
      refine AllReadyH.cons (o := ⟨none, _, _, _, _, _⟩) rfl (fun K hK => ?_) AllReadyH.nil
      (rw [if_pos (by kernel_rfl)])
      go_simp
      refine hK.out _ _ ⟨hx5, ho5⟩ (fun hHeld => ?_)
      clear hK K
      refine wpAnyH_done (by kernel_rfl) ?_ _
      go_wp2
      exact bodyPost_ret (results_bx3 rfl _ _ (w.heap.size + 1 + 1) _ _ _ 29 rfl Hf.out.1 Try.underlying29 (sizeState _)) rfl Hf.out.2
  · obtain ⟨A', c', w4, hrun, hB4, hrd4, hc4, hm4, hn4, hfr⟩ := Happ.out (some ⟨g, o + 1, none⟩) (fun _ => rfl) (fun e => by cases e)
    obtain ⟨m, hm0⟩ : ∃ m, 1 + (s.l.length - 1) = m := ⟨_, rfl⟩
    have hmm : m = tl.length + 1 := by have := Hn1.out; omega
    rw [hm0] at hrun hc4
    rw [show W3.drew.heap.size = w.heap.size + 1 + 1 + 1 from hs3] at hrun
    have Hrun := Lib.hid hrun
    have hB4 : Below W3.heap.size W3 w4 := ⟨hB4.os, hB4.tape, hB4.output, hB4.size, hB4.block⟩
    have hfr : ∀ a, A' = some a → W3.heap.size ≤ a.block ∧ a.block < w4.heap.size := hfr
    have hBw : Below w.heap.size w w4 := HB3.out.trans (hB4.mono HB3.out.size)
    have b4 : Bx3 w4 w.heap.size 29 _ _ _ := Hb0.out.below hB4
    have z4 : Bx3 w4 (w.heap.size + 1 + 1) 29 _ _ _ := Hz0.out.below hB4
    have hx4 : w4.cell? ⟨g, o, none⟩ = some (.string x) := (hBw.cell (p := ⟨g, o, none⟩) hg).trans hxw
    have ho4 : w4.cell? ⟨w.heap.size + 1, 1, none⟩ = some (.string t) := hB4.cell (p := ⟨w.heap.size + 1, 1, none⟩) (by show w.heap.size + 1 < W3.heap.size; omega) |>.trans o1
    have hx5 : (w4.setCell ⟨w.heap.size, 1, none⟩ (.slice A' m c')).cell? ⟨g, o, none⟩ = some (.string x) := by rw [World.cell?_setCell_far _ _ _ _ (by simp; omega)]; exact hx4
    have ho5 : (w4.setCell ⟨w.heap.size, 1, none⟩ (.slice A' m c')).cell? ⟨w.heap.size + 1, 1, none⟩ = some (.string t) := by rw [World.cell?_setCell_far _ _ _ _ (by simp)]; exact ho4
    have e0 := b4.c0
    have e1 := b4.c1
    have e2 := b4.c2
    have f1 := b4.f1
    have f2 := b4.f2
    have g0 := z4.c0
    have g1 := z4.c1
    have g2 := z4.c2
    have k0 := z4.f0
    have k1 := z4.f1
    have k2 := z4.f2
    have Hf := Lib.hid (Fin.out w4 A' m c' b4 z4 hBw hrd4 hc4 hm4 hn4 (fun a ha => by have := hfr a ha; omega) hmm)
    clear b4 z4 hBw hrd4 hfr hB4
    clear hrun hm0 hmm
    refine wp_region_held_drew (S := fun w' => w'.cell? ⟨g, o, none⟩ = some (.string x) ∧ w'.cell? ⟨w.heap.size + 1, 1, none⟩ = some (.string t)) (by kernel_rfl) ⟨hx3, o1⟩ (fun hHeld => ?_)
    refine wpAnyH_take (i := 0) (oi := ⟨some 34, _, _, _, _, _⟩) (v := ?_) rfl (by kernel_rfl) (by kernel_rfl) (by kernel_rfl) (fun _ _ _ h => h) (Or.inl ⟨by kernel_rfl, ?hy0⟩) (by assumption) ?_
    case hy0 => (intro w' hSw; (try dsimp only at hSw); go_simp; try with_reducible rfl)
    simp only [Act.put, List.setIfInBounds_toArray, List.set_cons_zero, List.set_cons_succ]
    refine wpAnyH_take (i := 4) (oi := ⟨some 38, _, _, _, _, _⟩) (v := ?_) rfl (by kernel_rfl) (by kernel_rfl) (by kernel_rfl) (fun _ _ _ h => h) (Or.inl ⟨by kernel_rfl, ?hy4⟩) (by assumption) ?_
    case hy4 => (intro w' hSw; (try dsimp only at hSw); go_simp; try with_reducible rfl)
    simp only [Act.put, List.setIfInBounds_toArray, List.set_cons_zero, List.set_cons_succ]
    refine wpAnyH_take (i := 8) (oi := ⟨some 42, _, _, _, _, _⟩) (v := ?_) rfl (by kernel_rfl) (by kernel_rfl) (by kernel_rfl) (fun _ _ _ h => h) (Or.inl ⟨by kernel_rfl, ?hy8⟩) (by assumption) ?_
    case hy8 => (intro w' hSw; (try dsimp only at hSw); go_simp; try with_reducible rfl)
    simp only [Act.put, List.setIfInBounds_toArray, List.set_cons_zero, List.set_cons_succ]
    refine wpAnyH_take (i := 5) (oi := ⟨some 39, _, _, _, _, _⟩) (v := ?_) rfl (by kernel_rfl) (by kernel_rfl) (by kernel_rfl) (fun _ _ _ h => h) (Or.inl ⟨by kernel_rfl, ?hy5⟩) (by assumption) ?_
    case hy5 => (intro w' hSw; (try dsimp only at hSw); go_simp; try with_reducible rfl)
    simp only [Act.put, List.setIfInBounds_toArray, List.set_cons_zero, List.set_cons_succ]
    refine wpAnyH_ready (rs := [1, 9]) (by kernel_rfl) (by simp) ?_
    refine AllReadyH.cons (o := ⟨some 35, _, _, _, _, _⟩) rfl (fun K hK => ?_) (AllReadyH.cons (o := ⟨some 43, _, _, _, _, _⟩) rfl (fun K hK => ?_) AllReadyH.nil)
    · (rw [if_pos (by kernel_rfl)])
      go_simp
      refine hK.out _ _ ⟨hx3, o1⟩ (fun hHeld => ?_)
      clear hK K
      refine wpAnyH_take (i := 2) (oi := ⟨some 36, _, _, _, _, _⟩) (v := ?_) rfl (by kernel_rfl) (by kernel_rfl) (by kernel_rfl) (fun _ _ _ h => h) (Or.inl ⟨by kernel_rfl, ?hy2⟩) (by assumption) ?_
      case hy2 => (intro w' hSw; (try dsimp only at hSw); go_simp; try with_reducible rfl)
      simp only [Act.put, List.setIfInBounds_toArray, List.set_cons_zero, List.set_cons_succ]
      refine wpAnyH_take (i := 3) (oi := ⟨some 37, _, _, _, _, _⟩) (v := ?_) rfl (by kernel_rfl) (by kernel_rfl) (by kernel_rfl) (fun _ _ _ h => h) (Or.inl ⟨by kernel_rfl, ?hy3⟩) (by assumption) ?_
      case hy3 => (intro w' hSw; (try dsimp only at hSw); go_simp; try with_reducible rfl)
      simp only [Act.put, List.setIfInBounds_toArray, List.set_cons_zero, List.set_cons_succ]
      refine wpAnyH_take (i := 6) (oi := ⟨some 40, _, _, _, _, _⟩) (v := ?_) rfl (by kernel_rfl) (by kernel_rfl) (by kernel_rfl) (fun _ _ _ h => h) (Or.inl ⟨by kernel_rfl, ?hy6⟩) (by assumption) ?_
      case hy6 => (intro w' hSw; (try dsimp only at hSw); go_simp; try with_reducible rfl)
      simp only [Act.put, List.setIfInBounds_toArray, List.set_cons_zero, List.set_cons_succ]
      refine wpAnyH_ready (rs := [7, 9]) (by kernel_rfl) (by simp) ?_
      refine AllReadyH.cons (o := ⟨some 41, _, _, _, _, _⟩) rfl (fun K hK => ?_) (AllReadyH.cons (o := ⟨some 43, _, _, _, _, _⟩) rfl (fun K hK => ?_) AllReadyH.nil)
      · (rw [if_pos (by kernel_rfl)])
        go_simp
        refine hK.out _ _ ⟨hxb, hob⟩ (fun hHeld => ?_)
        clear hK K
        refine wpAnyH_ready (rs := [9]) (by kernel_rfl) (by simp) ?_
        refine AllReadyH.cons (o := ⟨some 43, _, _, _, _, _⟩) rfl (fun K hK => ?_) AllReadyH.nil
        (rw [if_pos (by kernel_rfl)])
        go_simp
        refine hK.out _ _ ⟨hxb, hob⟩ (fun hHeld => ?_)
        clear hK K
        refine wpAnyH_take (i := 10) (oi := ⟨some 44, _, _, _, _, _⟩) (v := ?_) rfl (by kernel_rfl) (by kernel_rfl) (by kernel_rfl) (fun _ _ _ h => h) (Or.inl ⟨by kernel_rfl, ?hy10⟩) (by assumption) ?_
        case hy10 => (intro w' hSw; (try dsimp only at hSw); go_simp; try with_reducible rfl)
        simp only [Act.put, List.setIfInBounds_toArray, List.set_cons_zero, List.set_cons_succ]
        refine wpAnyH_ready (rs := [11]) (by kernel_rfl) (by simp) ?_
        refine AllReadyH.cons (o := ⟨some 45, _, _, _, _, _⟩) rfl (fun K hK => ?_) AllReadyH.nil
        refine step_append_g (by kernel_rfl) (.tmp 41) (.tmp 44) 27 rfl _ _ rfl rfl Hrun.out ?_
        refine hK.out _ _ ⟨hx4, ho4⟩ (fun hHeld => ?_)
        clear hK K
        refine wpAnyH_take (i := 12) (oi := ⟨some 46, _, _, _, _, _⟩) (v := ?_) rfl (by kernel_rfl) (by kernel_rfl) (by kernel_rfl) (fun _ _ _ h => h) (Or.inl ⟨by kernel_rfl, ?hy12⟩) (by assumption) ?_
        case hy12 => (intro w' hSw; (try dsimp only at hSw); go_simp; try with_reducible rfl)
        simp only [Act.put, List.setIfInBounds_toArray, List.set_cons_zero, List.set_cons_succ]
        refine wpAnyH_ready (rs := [13]) (by kernel_rfl) (by simp) ?_
        refine AllReadyH.cons (o := ⟨none, _, _, _, _, _⟩) rfl (fun K hK => ?_) AllReadyH.nil
        (rw [if_pos (by kernel_rfl)])
        go_simp
        refine hK.out _ _ ⟨hx5, ho5⟩ (fun hHeld => ?_)
        clear hK K
        refine wpAnyH_done (by kernel_rfl) ?_ _
        go_wp2
        exact bodyPost_ret (results_bx3 rfl _ _ (w.heap.size + 1 + 1) _ _ _ 29 rfl Hf.out.1 Try.underlying29 (sizeState _)) rfl Hf.out.2
      · (rw [if_pos (by kernel_rfl)])
        go_simp
        refine hK.out _ _ ⟨hx3, o1⟩ (fun hHeld => ?_)
        clear hK K
        refine wpAnyH_take (i := 10) (oi := ⟨some 44, _, _, _, _, _⟩) (v := ?_) rfl (by kernel_rfl) (by kernel_rfl) (by kernel_rfl) (fun _ _ _ h => h) (Or.inl ⟨by kernel_rfl, ?hy10⟩) (by assumption) ?_
        case hy10 => (intro w' hSw; (try dsimp only at hSw); go_simp; try with_reducible rfl)
        simp only [Act.put, List.setIfInBounds_toArray, List.set_cons_zero, List.set_cons_succ]
        refine wpAnyH_ready (rs := [7]) (by kernel_rfl) (by simp) ?_
        refine AllReadyH.cons (o := ⟨some 41, _, _, _, _, _⟩) rfl (fun K hK => ?_) AllReadyH.nil
        (rw [if_pos (by kernel_rfl)])
        go_simp
        refine hK.out _ _ ⟨hxb, hob⟩ (fun hHeld => ?_)
        clear hK K
        refine wpAnyH_ready (rs := [11]) (by kernel_rfl) (by simp) ?_
        refine AllReadyH.cons (o := ⟨some 45, _, _, _, _, _⟩) rfl (fun K hK => ?_) AllReadyH.nil
        refine step_append_g (by kernel_rfl) (.tmp 41) (.tmp 44) 27 rfl _ _ rfl rfl Hrun.out ?_
        refine hK.out _ _ ⟨hx4, ho4⟩ (fun hHeld => ?_)
        clear hK K
        refine wpAnyH_take (i := 12) (oi := ⟨some 46, _, _, _, _, _⟩) (v := ?_) rfl (by kernel_rfl) (by kernel_rfl) (by kernel_rfl) (fun _ _ _ h => h) (Or.inl ⟨by kernel_rfl, ?hy12⟩) (by assumption) ?_
        case hy12 => (intro w' hSw; (try dsimp only at hSw); go_simp; try with_reducible rfl)
        simp only [Act.put, List.setIfInBounds_toArray, List.set_cons_zero, List.set_cons_succ]
        refine wpAnyH_ready (rs := [13]) (by kernel_rfl) (by simp) ?_
        refine AllReadyH.cons (o := ⟨none, _, _, _, _, _⟩) rfl (fun K hK => ?_) AllReadyH.nil
        (rw [if_pos (by kernel_rfl)])
        go_simp
        refine hK.out _ _ ⟨hx5, ho5⟩ (fun hHeld => ?_)
        clear hK K
        refine wpAnyH_done (by kernel_rfl) ?_ _
        go_wp2
        exact bodyPost_ret (results_bx3 rfl _ _ (w.heap.size + 1 + 1) _ _ _ 29 rfl Hf.out.1 Try.underlying29 (sizeState _)) rfl Hf.out.2
    · (rw [if_pos (by kernel_rfl)])
      go_simp
      refine hK.out _ _ ⟨hx3, o1⟩ (fun hHeld => ?_)
      clear hK K
      refine wpAnyH_take (i := 10) (oi := ⟨some 44, _, _, _, _, _⟩) (v := ?_) rfl (by kernel_rfl) (by kernel_rfl) (by kernel_rfl) (fun _ _ _ h => h) (Or.inl ⟨by kernel_rfl, ?hy10⟩) (by assumption) ?_
      case hy10 => (intro w' hSw; (try dsimp only at hSw); go_simp; try with_reducible rfl)
      simp only [Act.put, List.setIfInBounds_toArray, List.set_cons_zero, List.set_cons_succ]
      refine wpAnyH_ready (rs := [1]) (by kernel_rfl) (by simp) ?_
      refine AllReadyH.cons (o := ⟨some 35, _, _, _, _, _⟩) rfl (fun K hK => ?_) AllReadyH.nil
      (rw [if_pos (by kernel_rfl)])
      go_simp
      refine hK.out _ _ ⟨hx3, o1⟩ (fun hHeld => ?_)
      clear hK K
      refine wpAnyH_take (i := 2) (oi := ⟨some 36, _, _, _, _, _⟩) (v := ?_) rfl (by kernel_rfl) (by kernel_rfl) (by kernel_rfl) (fun _ _ _ h => h) (Or.inl ⟨by kernel_rfl, ?hy2⟩) (by assumption) ?_
      case hy2 => (intro w' hSw; (try dsimp only at hSw); go_simp; try with_reducible rfl)
      simp only [Act.put, List.setIfInBounds_toArray, List.set_cons_zero, List.set_cons_succ]
      refine wpAnyH_take (i := 3) (oi := ⟨some 37, _, _, _, _, _⟩) (v := ?_) rfl (by kernel_rfl) (by kernel_rfl) (by kernel_rfl) (fun _ _ _ h => h) (Or.inl ⟨by kernel_rfl, ?hy3⟩) (by assumption) ?_
      case hy3 => (intro w' hSw; (try dsimp only at hSw); go_simp; try with_reducible rfl)
      simp only [Act.put, List.setIfInBounds_toArray, List.set_cons_zero, List.set_cons_succ]
      refine wpAnyH_take (i := 6) (oi := ⟨some 40, _, _, _, _, _⟩) (v := ?_) rfl (by kernel_rfl) (by kernel_rfl) (by kernel_rfl) (fun _ _ _ h => h) (Or.inl ⟨by kernel_rfl, ?hy6⟩) (by assumption) ?_
      case hy6 => (intro w' hSw; (try dsimp only at hSw); go_simp; try with_reducible rfl)
      simp only [Act.put, List.setIfInBounds_toArray, List.set_cons_zero, List.set_cons_succ]
      refine wpAnyH_ready (rs := [7]) (by kernel_rfl) (by simp) ?_
      refine AllReadyH.cons (o := ⟨some 41, _, _, _, _, _⟩) rfl (fun K hK => ?_) AllReadyH.nil
      (rw [if_pos (by kernel_rfl)])
      go_simp
      refine hK.out _ _ ⟨hxb, hob⟩ (fun hHeld => ?_)
      clear hK K
      refine wpAnyH_ready (rs := [11]) (by kernel_rfl) (by simp) ?_
      refine AllReadyH.cons (o := ⟨some 45, _, _, _, _, _⟩) rfl (fun K hK => ?_) AllReadyH.nil
      refine step_append_g (by kernel_rfl) (.tmp 41) (.tmp 44) 27 rfl _ _ rfl rfl Hrun.out ?_
      refine hK.out _ _ ⟨hx4, ho4⟩ (fun hHeld => ?_)
      clear hK K
      refine wpAnyH_take (i := 12) (oi := ⟨some 46, _, _, _, _, _⟩) (v := ?_) rfl (by kernel_rfl) (by kernel_rfl) (by kernel_rfl) (fun _ _ _ h => h) (Or.inl ⟨by kernel_rfl, ?hy12⟩) (by assumption) ?_
      case hy12 => (intro w' hSw; (try dsimp only at hSw); go_simp; try with_reducible rfl)
      simp only [Act.put, List.setIfInBounds_toArray, List.set_cons_zero, List.set_cons_succ]
      refine wpAnyH_ready (rs := [13]) (by kernel_rfl) (by simp) ?_
      refine AllReadyH.cons (o := ⟨none, _, _, _, _, _⟩) rfl (fun K hK => ?_) AllReadyH.nil
      (rw [if_pos (by kernel_rfl)])
      go_simp
      refine hK.out _ _ ⟨hx5, ho5⟩ (fun hHeld => ?_)
      clear hK K
      refine wpAnyH_done (by kernel_rfl) ?_ _
      go_wp2
      exact bodyPost_ret (results_bx3 rfl _ _ (w.heap.size + 1 + 1) _ _ _ 29 rfl Hf.out.1 Try.underlying29 (sizeState _)) rfl Hf.out.2

/-- The document's Do. -/
theorem rdo_calls (A : Option Addr) (c : Nat) (s : RS ByteArray) (o : OpD) (w : World) (h : DocAt w A c s) (hok : s.Ok) (hs : ∀ x ∈ s.l, ¬ 9223372036854775807 < x.size + o.t.size) :
    Calls Try.prog 14 #[docV A c s, .agg #[.int .i64 o.k, .string o.t]] w (Did w A (doR s o)) := by
  obtain ⟨k, t⟩ := o
  by_cases h0 : k = 0
  · subst h0; exact rdo_push A c s t w h hok
  by_cases h1 : k = 1
  · subst h1
    cases hl : s.l with
    | nil => exact rdo_none A c s t w h hok hl
    | cons x tl =>
      obtain ⟨g, o, rfl, hg, hc⟩ := h.rd.at_ (by rw [hl]; simp)
      exact rdo_some g o c s t x tl w h hok hl (hc 0 x (by rw [hl]; rfl)) hg (hs x (by rw [hl]; simp))
  · exact rdo_rest A c s k t w h hok h0 h1
end Go.Proofs.Ytdpijbaolaignaa
