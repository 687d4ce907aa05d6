/-
  The document's own Do (layer 6).
-/
import Derived.Test.YtgcafmofpflidaaUDo
import Derived.Lib.Strings
import Derived.Test.YtgcafmofpflidaaLast
import Derived.Test.YtgcafmofpflidaaSnoc
import Derived.Deep.RegionHeld3
import Derived.Deep.RegionLaw
import Derived.Deep.Cut
import Derived.BigRegion
namespace Go.Proofs.Ytgcafmofpflidaa
open Go Go.RowKit
set_option maxRecDepth 100000

set_option maxHeartbeats 4000000 in
theorem udo_new0 (Ab : Option Addr) (cb : Nat) (Af : Option Addr) (cf : Nat) (s : LS ByteArray) (t : ByteArray) (g : Int) (w : World) (h : DocL w Ab cb Af cf s) (hok : s.Ok) (hs : t ≠ s.now) (hg : g ≤ 0) :
    Calls Try.prog 13 #[docL Ab cb Af cf s, opV ⟨0, t, g⟩] w (DidU w Ab Af (doU s ⟨0, t, g⟩) (didU s ⟨0, t, g⟩)) := by
  obtain ⟨W3, hW3, hB3, hs3, b0, o0, z0⟩ := boxes6 Ab cb Af cf s 0 t g w
  have w0 := b0.c 0 rfl
  have w1 := b0.c 1 rfl
  have w2 := b0.c 2 rfl
  have w3 := b0.c 3 rfl
  have w4 := b0.c 4 rfl
  have v0 := b0.free 0
  have v1 := b0.free 1
  have v2 := b0.free 2
  have v3 := b0.free 3
  have v4 := b0.free 4
  have o0' := o0.c 0 rfl
  have o1' := o0.c 1 rfl
  have o2' := o0.c 2 rfl
  have g0 := z0.c 0 rfl
  have g1 := z0.c 1 rfl
  have g2 := z0.c 2 rfl
  have g3 := z0.c 3 rfl
  have g4 := z0.c 4 rfl
  have k0 := z0.free 0
  have k1 := z0.free 1
  have k2 := z0.free 2
  have k3 := z0.free 3
  have k4 := z0.free 4
  have hln := hok.len
  have hle := hok.le
  have Hb0 := Lib.hid b0
  have Ho0 := Lib.hid o0
  have Hz0 := Lib.hid z0
  have Hh := Lib.hid h
  have Hok := Lib.hid hok
  have HB3 := Lib.hid hB3
  have Hs3 := Lib.hid hs3
  clear b0 o0 z0 h hok hB3 hs3
  have hd0 : doU s ⟨0, t, g⟩ = (⟨s.lim, lastN s.lim (s.back ++ [s.now]), t, [], 0⟩ : LS ByteArray) := by rw [show doU s ⟨0, t, g⟩ = s.does t g from rfl]; unfold LS.does LS.put; rw [if_neg hs, if_pos (.inl hg), if_neg (by omega)]
  rw [hd0, show didU s ⟨0, t, g⟩ = true from by show decide (t ≠ s.now) = true; simp [hs]]
  clear hd0
  obtain ⟨nb, hnb0⟩ : ∃ nb, lastN s.lim (s.back ++ [s.now]) = nb := ⟨_, rfl⟩
  rw [hnb0]
  have hnb := Lib.hid hnb0
  clear hnb0
  have hq := toList_ne6 hs
  have hq1 : decide (g ≤ 0) = true := decide_eq_true hg
  have hq2 : decide (0 < g) = false := decide_eq_false (by omega)
  clear hg hs
  obtain ⟨Wa, hWa⟩ : ∃ Wa, W3.setCell ⟨w.heap.size, 3, none⟩ (.slice none 0 0) = Wa := ⟨_, rfl⟩
  have bW : BxA Wa w.heap.size 29 [.int .i64 (s.lim : Int), .slice Ab s.back.length cb, .string s.now, .slice none 0 0, .int .i64 s.opn] := by rw [← hWa]; exact Hb0.out.set 3 _
  have oW : BxA Wa (w.heap.size + 1) 32 [.int .i64 0, .string t, .int .i64 g] := by rw [← hWa]; exact Ho0.out.other (by omega) _
  have zW : BxA Wa (w.heap.size + 1 + 1) 29 [.int .i64 0, .slice none 0 0, .string ⟨#[]⟩, .slice none 0 0, .int .i64 0] := by rw [← hWa]; exact Hz0.out.other (by omega) _
  have hBW : Below w.heap.size w Wa := by rw [← hWa]; exact HB3.out.setCell (p := ⟨w.heap.size, 3, none⟩) (Nat.le_refl _) _
  have cfW := bW.c 1 rfl
  have cnW := bW.c 2 rfl
  have cgW := bW.c 4 rfl
  have oaW := oW.c 1 rfl
  have obW := oW.c 2 rfl
  have HbW := Lib.hid bW
  have HoW := Lib.hid oW
  have HzW := Lib.hid zW
  have HBW := Lib.hid hBW
  have hsWa : Hid (Wa.heap.size = w.heap.size + 3) := Lib.hid (by rw [← hWa]; exact Hs3.out ▸ (by simp [World.setCell]))
  have HRow := Lib.hid (Hh.out.rb.below hBW)
  have HNil := Lib.hid Hh.out.nilb
  have HLen : Hid (s.back.length ≤ 100000) := Lib.hid (by omega)
  clear bW oW zW hBW
  unfold docL opV
  go_enter Try.func13, Try.ntmps13
  go_upto_region 7 with fail
  go_cut [36] from 29 (fun s36 wc => ∃ A' c' w4, s36 = .slice A' (s.back.length + 1) c' ∧ wc = w4.setCell ⟨w.heap.size, 1, none⟩ (.slice A' (s.back.length + 1) c') ∧ Hid (SnocFin Wa s.back s.now A' c' w4))
  case first =>
    have cfE : (Wa.alloc (.cells #[] 9)).cell? ⟨w.heap.size, 1, none⟩ = some (.slice Ab s.back.length cb) := by rw [World.cell?_alloc_some _ _ _ (by rw [cfW]; rfl)]; exact cfW
    have cnE : (Wa.alloc (.cells #[] 9)).cell? ⟨w.heap.size, 2, none⟩ = some (.string s.now) := by rw [World.cell?_alloc_some _ _ _ (by rw [cnW]; rfl)]; exact cnW
    have cfX : (Wa.alloc (.cells #[.string s.now] 9)).cell? ⟨w.heap.size, 1, none⟩ = some (.slice Ab s.back.length cb) := by rw [World.cell?_alloc_some _ _ _ (by rw [cfW]; rfl)]; exact cfW
    have cnX : (Wa.alloc (.cells #[.string s.now] 9)).cell? ⟨w.heap.size, 2, none⟩ = some (.string s.now) := by rw [World.cell?_alloc_some _ _ _ (by rw [cnW]; rfl)]; exact cnW
    have cfEX : ((Wa.alloc (.cells #[] 9)).alloc (.cells #[.string s.now] 9)).cell? ⟨w.heap.size, 1, none⟩ = some (.slice Ab s.back.length cb) := by rw [World.cell?_alloc_some _ _ _ (by rw [cfE]; rfl)]; exact cfE
    have cnEX : ((Wa.alloc (.cells #[] 9)).alloc (.cells #[.string s.now] 9)).cell? ⟨w.heap.size, 2, none⟩ = some (.string s.now) := by rw [World.cell?_alloc_some _ _ _ (by rw [cnE]; rfl)]; exact cnE
    have cfXE : ((Wa.alloc (.cells #[.string s.now] 9)).alloc (.cells #[] 9)).cell? ⟨w.heap.size, 1, none⟩ = some (.slice Ab s.back.length cb) := by rw [World.cell?_alloc_some _ _ _ (by rw [cfX]; rfl)]; exact cfX
    have cnXE : ((Wa.alloc (.cells #[.string s.now] 9)).alloc (.cells #[] 9)).cell? ⟨w.heap.size, 2, none⟩ = some (.string s.now) := by rw [World.cell?_alloc_some _ _ _ (by rw [cnX]; rfl)]; exact cnX
    refine wp_region_last (S := (fun w' => w'.cell? ⟨w.heap.size, 1, none⟩ = some (.slice Ab s.back.length cb) ∧ w'.cell? ⟨w.heap.size, 2, none⟩ = some (.string s.now))) 9 (by kernel_rfl) ⟨cfW, cnW⟩ (fun hHeld => ?_)
    refine lastAny_take (i := 1) (oi := ⟨some 30, _, _, _, _, _⟩) (v := ?_) rfl (by kernel_rfl) (by kernel_rfl) (by kernel_rfl) (by kernel_rfl) (fun _ _ _ h => h) (Or.inl ⟨by kernel_rfl, ?hy1⟩) (by assumption) ?_
    case hy1 => (intro w' hSw; (try dsimp only at hSw); go_simp; try with_reducible rfl)
    simp only [Act.put, List.setIfInBounds_toArray, List.set_cons_zero, List.set_cons_succ]
    refine lastAny_take (i := 2) (oi := ⟨some 31, _, _, _, _, _⟩) (v := ?_) rfl (by kernel_rfl) (by kernel_rfl) (by kernel_rfl) (by kernel_rfl) (fun _ _ _ h => h) (Or.inl ⟨by kernel_rfl, ?hy2⟩) (by assumption) ?_
    case hy2 => (intro w' hSw; (try dsimp only at hSw); go_simp; try with_reducible rfl)
    simp only [Act.put, List.setIfInBounds_toArray, List.set_cons_zero, List.set_cons_succ]
    refine lastAny_take (i := 4) (oi := ⟨some 33, _, _, _, _, _⟩) (v := ?_) rfl (by kernel_rfl) (by kernel_rfl) (by kernel_rfl) (by kernel_rfl) (fun _ _ _ h => h) (Or.inl ⟨by kernel_rfl, ?hy4⟩) (by assumption) ?_
    case hy4 => (intro w' hSw; (try dsimp only at hSw); go_simp; try with_reducible rfl)
    simp only [Act.put, List.setIfInBounds_toArray, List.set_cons_zero, List.set_cons_succ]
    refine lastAny_take (i := 5) (oi := ⟨some 34, _, _, _, _, _⟩) (v := ?_) rfl (by kernel_rfl) (by kernel_rfl) (by kernel_rfl) (by kernel_rfl) (fun _ _ _ h => h) (Or.inl ⟨by kernel_rfl, ?hy5⟩) (by assumption) ?_
    case hy5 => (intro w' hSw; (try dsimp only at hSw); go_simp; try with_reducible rfl)
    simp only [Act.put, List.setIfInBounds_toArray, List.set_cons_zero, List.set_cons_succ]
    refine lastAny_ready (rs := [0, 6]) (by kernel_rfl) (by simp) ?_
    refine AllReadyL.cons (o := ⟨some 29, _, _, _, _, _⟩) rfl (fun K hK => ?_) (AllReadyL.cons (o := ⟨some 35, _, _, _, _, _⟩) rfl (fun K hK => ?_) AllReadyL.nil)
    · (rw [if_pos (by kernel_rfl)])
      go_simp
      refine hK.out _ _ ⟨cfE, cnE⟩ (fun hHeld => ?_)
      clear hK K
      refine lastAny_ready (rs := [3, 6]) (by kernel_rfl) (by simp) ?_
      refine AllReadyL.cons (o := ⟨some 32, _, _, _, _, _⟩) rfl (fun K hK => ?_) (AllReadyL.cons (o := ⟨some 35, _, _, _, _, _⟩) rfl (fun K hK => ?_) AllReadyL.nil)
      · obtain ⟨v2, w2, hr1, hb2, A', c', w4, hr2, hf⟩ := snocA Wa.drew Ab cb s.back s.now HRow.out.drew HNil.out HLen.out
        rw [show Wa.drew.heap.size = Wa.heap.size from rfl] at hr1 hb2
        (try rw [show Wa.drew.heap.size = Wa.heap.size from rfl] at hr2)
        have Hr1 := Lib.hid hr1
        have Hr2 := Lib.hid hr2
        have HF := Lib.hid hf.undrew
        have hb2' : Below Wa.heap.size Wa w2 := ⟨hb2.os, hb2.tape, hb2.output, hb2.size, hb2.block⟩
        have cf2 : (w2).cell? ⟨w.heap.size, 1, none⟩ = some (.slice Ab s.back.length cb) := (hb2'.cell (p := ⟨w.heap.size, 1, none⟩) (World.block_lt_of_cell? _ _ cfW)).trans cfW
        have cn2 : (w2).cell? ⟨w.heap.size, 2, none⟩ = some (.string s.now) := (hb2'.cell (p := ⟨w.heap.size, 2, none⟩) (World.block_lt_of_cell? _ _ cnW)).trans cnW
        have cf2X : (w2.alloc (.cells #[.string s.now] 9)).cell? ⟨w.heap.size, 1, none⟩ = some (.slice Ab s.back.length cb) := by rw [World.cell?_alloc_some _ _ _ (by rw [cf2]; rfl)]; exact cf2
        have cn2X : (w2.alloc (.cells #[.string s.now] 9)).cell? ⟨w.heap.size, 2, none⟩ = some (.string s.now) := by rw [World.cell?_alloc_some _ _ _ (by rw [cn2]; rfl)]; exact cn2
        have hb4 : Below Wa.heap.size Wa w4 := ⟨hf.1.os, hf.1.tape, hf.1.output, hf.1.size, hf.1.block⟩
        have cf4 : (w4).cell? ⟨w.heap.size, 1, none⟩ = some (.slice Ab s.back.length cb) := (hb4.cell (p := ⟨w.heap.size, 1, none⟩) (World.block_lt_of_cell? _ _ cfW)).trans cfW
        have cn4 : (w4).cell? ⟨w.heap.size, 2, none⟩ = some (.string s.now) := (hb4.cell (p := ⟨w.heap.size, 2, none⟩) (World.block_lt_of_cell? _ _ cnW)).trans cnW
        have ff4 : w4.frozen? ⟨w.heap.size, 1, none⟩ = false := (HbW.out.below hb4).free 1
        clear hr1 hr2 hf hb2 hb2' hb4
        refine step_append_g (by kernel_rfl) (.tmp 29) (.tmp 31) 27 rfl _ _ rfl rfl Hr1.out ?_
        refine hK.out _ _ ⟨cf2, cn2⟩ (fun hHeld => ?_)
        clear hK K
        refine lastAny_ready (rs := [6]) (by kernel_rfl) (by simp) ?_
        refine AllReadyL.cons (o := ⟨some 35, _, _, _, _, _⟩) rfl (fun K hK => ?_) AllReadyL.nil
        (rw [if_pos (by kernel_rfl)])
        go_simp
        refine hK.out _ _ ⟨cf2X, cn2X⟩ (fun hHeld => ?_)
        clear hK K
        refine lastAny_ready (rs := [7]) (by kernel_rfl) (by simp) ?_
        refine AllReadyL.cons (o := ⟨some 36, _, _, _, _, _⟩) rfl (fun K hK => ?_) AllReadyL.nil
        refine step_append_g (by kernel_rfl) (.tmp 32) (.tmp 35) 27 rfl _ _ rfl rfl Hr2.out ?_
        refine hK.out _ _ ⟨cf4, cn4⟩ (fun hHeld => ?_)
        clear hK K
        refine lastAny_take (i := 8) (oi := ⟨some 37, _, _, _, _, _⟩) (v := ?_) rfl (by kernel_rfl) (by kernel_rfl) (by kernel_rfl) (by kernel_rfl) (fun _ _ _ h => h) (Or.inl ⟨by kernel_rfl, ?hy8⟩) (by assumption) ?_
        case hy8 => (intro w' hSw; (try dsimp only at hSw); go_simp; try with_reducible rfl)
        simp only [Act.put, List.setIfInBounds_toArray, List.set_cons_zero, List.set_cons_succ]
        refine lastAny_end (by kernel_rfl) rfl (by kernel_rfl) (by kernel_rfl) (fun K hK => ?_)
        go_simp
        refine hK.out _ _ ?_
        clear hK K
        clear cf4 cn4 cf2 cn2 cf2X cn2X cfE cnE cfX cnX cfEX cnEX cfXE cnXE Hr1 Hr2
        go_wp2_with fail
        go_meet
        exact ⟨A', c', w4, rfl, rfl, HF⟩
      · (rw [if_pos (by kernel_rfl)])
        go_simp
        refine hK.out _ _ ⟨cfEX, cnEX⟩ (fun hHeld => ?_)
        clear hK K
        obtain ⟨v2, w2, hr1, hb2, A', c', w4, hr2, hf⟩ := snocB Wa.drew Ab cb s.back s.now HRow.out.drew HNil.out HLen.out
        rw [show Wa.drew.heap.size = Wa.heap.size from rfl] at hr1 hb2
        (try rw [show Wa.drew.heap.size = Wa.heap.size from rfl] at hr2)
        have Hr1 := Lib.hid hr1
        have Hr2 := Lib.hid hr2
        have HF := Lib.hid hf.undrew
        have hb2' : Below Wa.heap.size Wa w2 := ⟨hb2.os, hb2.tape, hb2.output, hb2.size, hb2.block⟩
        have cf2 : (w2).cell? ⟨w.heap.size, 1, none⟩ = some (.slice Ab s.back.length cb) := (hb2'.cell (p := ⟨w.heap.size, 1, none⟩) (World.block_lt_of_cell? _ _ cfW)).trans cfW
        have cn2 : (w2).cell? ⟨w.heap.size, 2, none⟩ = some (.string s.now) := (hb2'.cell (p := ⟨w.heap.size, 2, none⟩) (World.block_lt_of_cell? _ _ cnW)).trans cnW
        have cf2X : (w2.alloc (.cells #[.string s.now] 9)).cell? ⟨w.heap.size, 1, none⟩ = some (.slice Ab s.back.length cb) := by rw [World.cell?_alloc_some _ _ _ (by rw [cf2]; rfl)]; exact cf2
        have cn2X : (w2.alloc (.cells #[.string s.now] 9)).cell? ⟨w.heap.size, 2, none⟩ = some (.string s.now) := by rw [World.cell?_alloc_some _ _ _ (by rw [cn2]; rfl)]; exact cn2
        have hb4 : Below Wa.heap.size Wa w4 := ⟨hf.1.os, hf.1.tape, hf.1.output, hf.1.size, hf.1.block⟩
        have cf4 : (w4).cell? ⟨w.heap.size, 1, none⟩ = some (.slice Ab s.back.length cb) := (hb4.cell (p := ⟨w.heap.size, 1, none⟩) (World.block_lt_of_cell? _ _ cfW)).trans cfW
        have cn4 : (w4).cell? ⟨w.heap.size, 2, none⟩ = some (.string s.now) := (hb4.cell (p := ⟨w.heap.size, 2, none⟩) (World.block_lt_of_cell? _ _ cnW)).trans cnW
        have ff4 : w4.frozen? ⟨w.heap.size, 1, none⟩ = false := (HbW.out.below hb4).free 1
        clear hr1 hr2 hf hb2 hb2' hb4
        refine lastAny_ready (rs := [3]) (by kernel_rfl) (by simp) ?_
        refine AllReadyL.cons (o := ⟨some 32, _, _, _, _, _⟩) rfl (fun K hK => ?_) AllReadyL.nil
        refine step_append_g (by kernel_rfl) (.tmp 29) (.tmp 31) 27 rfl _ _ rfl rfl Hr1.out ?_
        refine hK.out _ _ ⟨cf2, cn2⟩ (fun hHeld => ?_)
        clear hK K
        refine lastAny_ready (rs := [7]) (by kernel_rfl) (by simp) ?_
        refine AllReadyL.cons (o := ⟨some 36, _, _, _, _, _⟩) rfl (fun K hK => ?_) AllReadyL.nil
        refine step_append_g (by kernel_rfl) (.tmp 32) (.tmp 35) 27 rfl _ _ rfl rfl Hr2.out ?_
        refine hK.out _ _ ⟨cf4, cn4⟩ (fun hHeld => ?_)
        clear hK K
        refine lastAny_take (i := 8) (oi := ⟨some 37, _, _, _, _, _⟩) (v := ?_) rfl (by kernel_rfl) (by kernel_rfl) (by kernel_rfl) (by kernel_rfl) (fun _ _ _ h => h) (Or.inl ⟨by kernel_rfl, ?hy8⟩) (by assumption) ?_
        case hy8 => (intro w' hSw; (try dsimp only at hSw); go_simp; try with_reducible rfl)
        simp only [Act.put, List.setIfInBounds_toArray, List.set_cons_zero, List.set_cons_succ]
        refine lastAny_end (by kernel_rfl) rfl (by kernel_rfl) (by kernel_rfl) (fun K hK => ?_)
        go_simp
        refine hK.out _ _ ?_
        clear hK K
        clear cf4 cn4 cf2 cn2 cf2X cn2X cfE cnE cfX cnX cfEX cnEX cfXE cnXE Hr1 Hr2
        go_wp2_with fail
        go_meet
        exact ⟨A', c', w4, rfl, rfl, HF⟩
    · (rw [if_pos (by kernel_rfl)])
      go_simp
      refine hK.out _ _ ⟨cfX, cnX⟩ (fun hHeld => ?_)
      clear hK K
      refine lastAny_ready (rs := [0]) (by kernel_rfl) (by simp) ?_
      refine AllReadyL.cons (o := ⟨some 29, _, _, _, _, _⟩) rfl (fun K hK => ?_) AllReadyL.nil
      (rw [if_pos (by kernel_rfl)])
      go_simp
      refine hK.out _ _ ⟨cfXE, cnXE⟩ (fun hHeld => ?_)
      clear hK K
      obtain ⟨v2, w2, hr1, hb2, A', c', w4, hr2, hf⟩ := snocC Wa.drew Ab cb s.back s.now HRow.out.drew HNil.out HLen.out
      rw [show Wa.drew.heap.size = Wa.heap.size from rfl] at hr1 hb2
      (try rw [show Wa.drew.heap.size = Wa.heap.size from rfl] at hr2)
      have Hr1 := Lib.hid hr1
      have Hr2 := Lib.hid hr2
      have HF := Lib.hid hf.undrew
      have hb2' : Below Wa.heap.size Wa w2 := ⟨hb2.os, hb2.tape, hb2.output, hb2.size, hb2.block⟩
      have cf2 : (w2).cell? ⟨w.heap.size, 1, none⟩ = some (.slice Ab s.back.length cb) := (hb2'.cell (p := ⟨w.heap.size, 1, none⟩) (World.block_lt_of_cell? _ _ cfW)).trans cfW
      have cn2 : (w2).cell? ⟨w.heap.size, 2, none⟩ = some (.string s.now) := (hb2'.cell (p := ⟨w.heap.size, 2, none⟩) (World.block_lt_of_cell? _ _ cnW)).trans cnW
      have cf2X : (w2.alloc (.cells #[.string s.now] 9)).cell? ⟨w.heap.size, 1, none⟩ = some (.slice Ab s.back.length cb) := by rw [World.cell?_alloc_some _ _ _ (by rw [cf2]; rfl)]; exact cf2
      have cn2X : (w2.alloc (.cells #[.string s.now] 9)).cell? ⟨w.heap.size, 2, none⟩ = some (.string s.now) := by rw [World.cell?_alloc_some _ _ _ (by rw [cn2]; rfl)]; exact cn2
      have hb4 : Below Wa.heap.size Wa w4 := ⟨hf.1.os, hf.1.tape, hf.1.output, hf.1.size, hf.1.block⟩
      have cf4 : (w4).cell? ⟨w.heap.size, 1, none⟩ = some (.slice Ab s.back.length cb) := (hb4.cell (p := ⟨w.heap.size, 1, none⟩) (World.block_lt_of_cell? _ _ cfW)).trans cfW
      have cn4 : (w4).cell? ⟨w.heap.size, 2, none⟩ = some (.string s.now) := (hb4.cell (p := ⟨w.heap.size, 2, none⟩) (World.block_lt_of_cell? _ _ cnW)).trans cnW
      have ff4 : w4.frozen? ⟨w.heap.size, 1, none⟩ = false := (HbW.out.below hb4).free 1
      clear hr1 hr2 hf hb2 hb2' hb4
      refine lastAny_ready (rs := [3]) (by kernel_rfl) (by simp) ?_
      refine AllReadyL.cons (o := ⟨some 32, _, _, _, _, _⟩) rfl (fun K hK => ?_) AllReadyL.nil
      refine step_append_g (by kernel_rfl) (.tmp 29) (.tmp 31) 27 rfl _ _ rfl rfl Hr1.out ?_
      refine hK.out _ _ ⟨cf2, cn2⟩ (fun hHeld => ?_)
      clear hK K
      refine lastAny_ready (rs := [7]) (by kernel_rfl) (by simp) ?_
      refine AllReadyL.cons (o := ⟨some 36, _, _, _, _, _⟩) rfl (fun K hK => ?_) AllReadyL.nil
      refine step_append_g (by kernel_rfl) (.tmp 32) (.tmp 35) 27 rfl _ _ rfl rfl Hr2.out ?_
      refine hK.out _ _ ⟨cf4, cn4⟩ (fun hHeld => ?_)
      clear hK K
      refine lastAny_take (i := 8) (oi := ⟨some 37, _, _, _, _, _⟩) (v := ?_) rfl (by kernel_rfl) (by kernel_rfl) (by kernel_rfl) (by kernel_rfl) (fun _ _ _ h => h) (Or.inl ⟨by kernel_rfl, ?hy8⟩) (by assumption) ?_
      case hy8 => (intro w' hSw; (try dsimp only at hSw); go_simp; try with_reducible rfl)
      simp only [Act.put, List.setIfInBounds_toArray, List.set_cons_zero, List.set_cons_succ]
      refine lastAny_end (by kernel_rfl) rfl (by kernel_rfl) (by kernel_rfl) (fun K hK => ?_)
      go_simp
      refine hK.out _ _ ?_
      clear hK K
      clear cf4 cn4 cf2 cn2 cf2X cn2X cfE cnE cfX cnX cfEX cnEX cfXE cnXE Hr1 Hr2
      go_wp2_with fail
      go_meet
      exact ⟨A', c', w4, rfl, rfl, HF⟩
  case rest =>
    obtain ⟨A', c', w4, rfl, hwc, HF⟩ := hcut
    obtain ⟨hb4, hrd, hcc, hcm, hcn, hfr⟩ := HF.out
    have b4 : BxA wc w.heap.size 29 [.int .i64 (s.lim : Int), .slice A' (s.back.length + 1) c', .string s.now, .slice none 0 0, .int .i64 s.opn] := by rw [hwc]; exact (HbW.out.below hb4).set 1 _
    have o4 : BxA wc (w.heap.size + 1) 32 [.int .i64 0, .string t, .int .i64 g] := by rw [hwc]; exact (HoW.out.below hb4).other (by omega) _
    have z4 : BxA wc (w.heap.size + 1 + 1) 29 [.int .i64 0, .slice none 0 0, .string ⟨#[]⟩, .slice none 0 0, .int .i64 0] := by rw [hwc]; exact (HzW.out.below hb4).other (by omega) _
    have hBw : Below w.heap.size w w4 := HBW.out.trans (hb4.mono HBW.out.size)
    have hB4 : Below w.heap.size w wc := by rw [hwc]; exact hBw.setCell (p := ⟨w.heap.size, 1, none⟩) (Nat.le_refl _) _
    have c40 := b4.c 0 rfl
    have c41 := b4.c 1 rfl
    have c42 := b4.c 2 rfl
    have c44 := b4.c 4 rfl
    have f41 := b4.free 1
    have f42 := b4.free 2
    have f44 := b4.free 4
    have o41 := o4.c 1 rfl
    have o42 := o4.c 2 rfl
    have Hb4 := Lib.hid b4
    have Ho4 := Lib.hid o4
    have Hz4 := Lib.hid z4
    have HB4 := Lib.hid hB4
    have Hwc := Lib.hid hwc
    have hO4 : Only (fun i => i = w.heap.size) w4 wc := by rw [hwc]; exact (Only.refl (fun i => i = w.heap.size) w4).set (p := ⟨w.heap.size, 1, none⟩) (.inl rfl) _
    have HO4 := Lib.hid hO4
    have hpos := Hok.out.pos
    clear b4 o4 z4 hBw hB4 hwc hO4 hb4
    by_cases hdrop : s.lim < s.back.length + 1
    · have hnl : nb.length = s.back.length := by rw [← hnb.out, lastN_length]; simp; omega
      have hnt : nb = (s.back ++ [s.now]).tail := by
        rw [← hnb.out]; unfold lastN
        rw [show (s.back ++ [s.now]).length - s.lim = 1 by simp; omega, List.drop_one]
      obtain ⟨g', o', rfl, hg', _⟩ := hrd.at_ (by simp)
      have hrn : RdV Value.string w4 (some ⟨g', o' + 1, none⟩) nb := by rw [hnt]; exact hrd.tail
      clear hnt
      have hgt : decide ((s.lim : Int) < ((s.back.length + 1 : Nat) : Int)) = true := decide_eq_true (by omega)
      have hgt' : decide (s.lim < s.back.length + 1) = true := decide_eq_true hdrop
      have hc1 : ¬ c' = 1 := by omega
      have hc1' : ¬ 1 = c' := by omega
      have h1c : 1 ≤ c' := by omega
      obtain ⟨Wn, hWn⟩ : ∃ Wn, (((wc.setCell ⟨w.heap.size, 1, none⟩ (.slice (some ⟨g', o' + 1, none⟩) s.back.length (c' - 1))).setCell ⟨w.heap.size, 2, none⟩ (.string t)).setCell ⟨w.heap.size, 4, none⟩ (.int .i64 0)) = Wn := ⟨_, rfl⟩
      have HW : Hid (Below w.heap.size w Wn) := Lib.hid (by rw [← hWn]; exact (((HB4.out).setCell (p := ⟨w.heap.size, 1, none⟩) (Nat.le_refl _) _).setCell (p := ⟨w.heap.size, 2, none⟩) (Nat.le_refl _) _).setCell (p := ⟨w.heap.size, 4, none⟩) (Nat.le_refl _) _)
      have hON : Only (fun i => i = w.heap.size) w4 Wn := by rw [← hWn]; exact (((HO4.out).set (p := ⟨w.heap.size, 1, none⟩) (.inl rfl) _).set (p := ⟨w.heap.size, 2, none⟩) (.inl rfl) _).set (p := ⟨w.heap.size, 4, none⟩) (.inl rfl) _
      have bN : BxA Wn w.heap.size 29 [.int .i64 (s.lim : Int), .slice (some ⟨g', o' + 1, none⟩) (s.back.length) (c' - 1), .string t, .slice none 0 0, .int .i64 0] := by rw [← hWn]; exact (((Hb4.out.set 1 _).set 2 _).set 4 _)
      have zN : BxA Wn (w.heap.size + 1 + 1) 29 [.int .i64 0, .slice none 0 0, .string ⟨#[]⟩, .slice none 0 0, .int .i64 0] := by rw [← hWn]; exact (((Hz4.out.other (by omega) _).other (by omega) _).other (by omega) _)
      have oN : BxA Wn (w.heap.size + 1) 32 [.int .i64 0, .string t, .int .i64 g] := by rw [← hWn]; exact (((Ho4.out.other (by omega) _).other (by omega) _).other (by omega) _)
      have p1 := oN.c 1 rfl
      have p2 := oN.c 2 rfl
      clear oN
      have n0 := bN.c 0 rfl
      have n1 := bN.c 1 rfl
      have n2 := bN.c 2 rfl
      have n3 := bN.c 3 rfl
      have n4 := bN.c 4 rfl
      have a0 := zN.c 0 rfl
      have a1 := zN.c 1 rfl
      have a2 := zN.c 2 rfl
      have a3 := zN.c 3 rfl
      have a4 := zN.c 4 rfl
      have b0 := zN.free 0
      have b1 := zN.free 1
      have b2 := zN.free 2
      have b3 := zN.free 3
      have b4 := zN.free 4
      have hsa : Wa.heap.size = w.heap.size + 3 := hsWa.out
      have fin := fin6 (w := w) (M := w.heap.size + 1 + 1) (Ab := Ab) (Af := Af) (Ab' := (some ⟨g', o' + 1, none⟩)) (cb' := (c' - 1)) (Af' := none) (cf' := 0) (s' := (⟨s.lim, nb, t, [], 0⟩ : LS ByteArray)) true HW.out (by omega) zN (fun W' ho => ⟨(hrn.keep hON (fun a e => by have := hfr ⟨g', o', none⟩ rfl; cases e; simp only at this ⊢; omega)).keep ho (fun a e => by have := hfr ⟨g', o', none⟩ rfl; cases e; simp only at this ⊢; omega), (by show nb.length ≤ (c' - 1); omega), (by omega), fun e => (by cases e), fun hn => absurd hn (Nat.lt_irrefl 0), Nat.zero_le _, by unfold maxLen; omega, fun _ => rfl⟩) (fun a e => .inr (by have := hfr ⟨g', o', none⟩ rfl; cases e; simp only at this ⊢; have := hON.size; omega)) (NearL.none _ _ _)
      dsimp only [docL] at fin
      rw [hnl] at fin
      have Fin := Lib.hid fin
      clear fin bN zN hON hsa hrd hrn hfr HF hnl
      go_wp2
      refine bodyPost_ret (results_bxA2 rfl _ _ (w.heap.size + 1 + 1) _ _ _ _ _ _ 29 rfl rfl Fin.out.1 Try.underlying29 (sizeState6 _)) rfl ?_
      exact Fin.out.2
    · have hnl : nb.length = s.back.length + 1 := by rw [← hnb.out, lastN_length]; simp; omega
      have hrn : RdV Value.string w4 A' nb := by rw [← hnb.out, lastN_all (by simp; omega)]; exact hrd
      have hgt : decide ((s.lim : Int) < ((s.back.length + 1 : Nat) : Int)) = false := decide_eq_false (by omega)
      have hgt' : decide (s.lim < s.back.length + 1) = false := decide_eq_false hdrop
      obtain ⟨Wn, hWn⟩ : ∃ Wn, ((wc.setCell ⟨w.heap.size, 2, none⟩ (.string t)).setCell ⟨w.heap.size, 4, none⟩ (.int .i64 0)) = Wn := ⟨_, rfl⟩
      have HW : Hid (Below w.heap.size w Wn) := Lib.hid (by rw [← hWn]; exact ((HB4.out).setCell (p := ⟨w.heap.size, 2, none⟩) (Nat.le_refl _) _).setCell (p := ⟨w.heap.size, 4, none⟩) (Nat.le_refl _) _)
      have hON : Only (fun i => i = w.heap.size) w4 Wn := by rw [← hWn]; exact ((HO4.out).set (p := ⟨w.heap.size, 2, none⟩) (.inl rfl) _).set (p := ⟨w.heap.size, 4, none⟩) (.inl rfl) _
      have bN : BxA Wn w.heap.size 29 [.int .i64 (s.lim : Int), .slice A' (s.back.length + 1) c', .string t, .slice none 0 0, .int .i64 0] := by rw [← hWn]; exact ((Hb4.out.set 2 _).set 4 _)
      have zN : BxA Wn (w.heap.size + 1 + 1) 29 [.int .i64 0, .slice none 0 0, .string ⟨#[]⟩, .slice none 0 0, .int .i64 0] := by rw [← hWn]; exact ((Hz4.out.other (by omega) _).other (by omega) _)
      have oN : BxA Wn (w.heap.size + 1) 32 [.int .i64 0, .string t, .int .i64 g] := by rw [← hWn]; exact ((Ho4.out.other (by omega) _).other (by omega) _)
      have p1 := oN.c 1 rfl
      have p2 := oN.c 2 rfl
      clear oN
      have n0 := bN.c 0 rfl
      have n1 := bN.c 1 rfl
      have n2 := bN.c 2 rfl
      have n3 := bN.c 3 rfl
      have n4 := bN.c 4 rfl
      have a0 := zN.c 0 rfl
      have a1 := zN.c 1 rfl
      have a2 := zN.c 2 rfl
      have a3 := zN.c 3 rfl
      have a4 := zN.c 4 rfl
      have b0 := zN.free 0
      have b1 := zN.free 1
      have b2 := zN.free 2
      have b3 := zN.free 3
      have b4 := zN.free 4
      have hsa : Wa.heap.size = w.heap.size + 3 := hsWa.out
      have fin := fin6 (w := w) (M := w.heap.size + 1 + 1) (Ab := Ab) (Af := Af) (Ab' := A') (cb' := c') (Af' := none) (cf' := 0) (s' := (⟨s.lim, nb, t, [], 0⟩ : LS ByteArray)) true HW.out (by omega) zN (fun W' ho => ⟨(hrn.keep hON (fun a e => by have := hfr a e; omega)).keep ho (fun a e => by have := hfr a e; omega), (by show nb.length ≤ c'; omega), (by omega), fun e => hcn e, fun hn => absurd hn (Nat.lt_irrefl 0), Nat.zero_le _, by unfold maxLen; omega, fun _ => rfl⟩) (fun a e => .inr (by have := hfr a e; have := hON.size; omega)) (NearL.none _ _ _)
      dsimp only [docL] at fin
      rw [hnl] at fin
      have Fin := Lib.hid fin
      clear fin bN zN hON hsa hrd hrn hfr HF hnl
      go_wp2
      refine bodyPost_ret (results_bxA2 rfl _ _ (w.heap.size + 1 + 1) _ _ _ _ _ _ 29 rfl rfl Fin.out.1 Try.underlying29 (sizeState6 _)) rfl ?_
      exact Fin.out.2
set_option maxHeartbeats 4000000 in
theorem udo_newp (Ab : Option Addr) (cb : Nat) (Af : Option Addr) (cf : Nat) (s : LS ByteArray) (t : ByteArray) (g : Int) (w : World) (h : DocL w Ab cb Af cf s) (hok : s.Ok) (hs : t ≠ s.now) (hg : 0 < g) (hg2 : g ≠ s.opn) :
    Calls Try.prog 13 #[docL Ab cb Af cf s, opV ⟨0, t, g⟩] w (DidU w Ab Af (doU s ⟨0, t, g⟩) (didU s ⟨0, t, g⟩)) := by
  obtain ⟨W3, hW3, hB3, hs3, b0, o0, z0⟩ := boxes6 Ab cb Af cf s 0 t g w
  have w0 := b0.c 0 rfl
  have w1 := b0.c 1 rfl
  have w2 := b0.c 2 rfl
  have w3 := b0.c 3 rfl
  have w4 := b0.c 4 rfl
  have v0 := b0.free 0
  have v1 := b0.free 1
  have v2 := b0.free 2
  have v3 := b0.free 3
  have v4 := b0.free 4
  have o0' := o0.c 0 rfl
  have o1' := o0.c 1 rfl
  have o2' := o0.c 2 rfl
  have g0 := z0.c 0 rfl
  have g1 := z0.c 1 rfl
  have g2 := z0.c 2 rfl
  have g3 := z0.c 3 rfl
  have g4 := z0.c 4 rfl
  have k0 := z0.free 0
  have k1 := z0.free 1
  have k2 := z0.free 2
  have k3 := z0.free 3
  have k4 := z0.free 4
  have hln := hok.len
  have hle := hok.le
  have Hb0 := Lib.hid b0
  have Ho0 := Lib.hid o0
  have Hz0 := Lib.hid z0
  have Hh := Lib.hid h
  have Hok := Lib.hid hok
  have HB3 := Lib.hid hB3
  have Hs3 := Lib.hid hs3
  clear b0 o0 z0 h hok hB3 hs3
  have hd0 : doU s ⟨0, t, g⟩ = (⟨s.lim, lastN s.lim (s.back ++ [s.now]), t, [], g⟩ : LS ByteArray) := by rw [show doU s ⟨0, t, g⟩ = s.does t g from rfl]; unfold LS.does LS.put; rw [if_neg hs, if_pos (.inr hg2), if_pos hg]
  rw [hd0, show didU s ⟨0, t, g⟩ = true from by show decide (t ≠ s.now) = true; simp [hs]]
  clear hd0
  obtain ⟨nb, hnb0⟩ : ∃ nb, lastN s.lim (s.back ++ [s.now]) = nb := ⟨_, rfl⟩
  rw [hnb0]
  have hnb := Lib.hid hnb0
  clear hnb0
  have hq := toList_ne6 hs
  have hq1 : decide (g ≤ 0) = false := decide_eq_false (by omega)
  have hq2 : decide (0 < g) = true := decide_eq_true hg
  have hq3 : (g != s.opn) = true := by simp [hg2]
  clear hg hg2 hs
  obtain ⟨Wa, hWa⟩ : ∃ Wa, W3.setCell ⟨w.heap.size, 3, none⟩ (.slice none 0 0) = Wa := ⟨_, rfl⟩
  have bW : BxA Wa w.heap.size 29 [.int .i64 (s.lim : Int), .slice Ab s.back.length cb, .string s.now, .slice none 0 0, .int .i64 s.opn] := by rw [← hWa]; exact Hb0.out.set 3 _
  have oW : BxA Wa (w.heap.size + 1) 32 [.int .i64 0, .string t, .int .i64 g] := by rw [← hWa]; exact Ho0.out.other (by omega) _
  have zW : BxA Wa (w.heap.size + 1 + 1) 29 [.int .i64 0, .slice none 0 0, .string ⟨#[]⟩, .slice none 0 0, .int .i64 0] := by rw [← hWa]; exact Hz0.out.other (by omega) _
  have hBW : Below w.heap.size w Wa := by rw [← hWa]; exact HB3.out.setCell (p := ⟨w.heap.size, 3, none⟩) (Nat.le_refl _) _
  have cfW := bW.c 1 rfl
  have cnW := bW.c 2 rfl
  have cgW := bW.c 4 rfl
  have oaW := oW.c 1 rfl
  have obW := oW.c 2 rfl
  have HbW := Lib.hid bW
  have HoW := Lib.hid oW
  have HzW := Lib.hid zW
  have HBW := Lib.hid hBW
  have hsWa : Hid (Wa.heap.size = w.heap.size + 3) := Lib.hid (by rw [← hWa]; exact Hs3.out ▸ (by simp [World.setCell]))
  have HRow := Lib.hid (Hh.out.rb.below hBW)
  have HNil := Lib.hid Hh.out.nilb
  have HLen : Hid (s.back.length ≤ 100000) := Lib.hid (by omega)
  clear bW oW zW hBW
  unfold docL opV
  go_enter Try.func13, Try.ntmps13
  go_upto_region 7 with fail
  go_cut [36] from 29 (fun s36 wc => ∃ A' c' w4, s36 = .slice A' (s.back.length + 1) c' ∧ wc = w4.setCell ⟨w.heap.size, 1, none⟩ (.slice A' (s.back.length + 1) c') ∧ Hid (SnocFin Wa s.back s.now A' c' w4))
  case first =>
    have cfE : (Wa.alloc (.cells #[] 9)).cell? ⟨w.heap.size, 1, none⟩ = some (.slice Ab s.back.length cb) := by rw [World.cell?_alloc_some _ _ _ (by rw [cfW]; rfl)]; exact cfW
    have cnE : (Wa.alloc (.cells #[] 9)).cell? ⟨w.heap.size, 2, none⟩ = some (.string s.now) := by rw [World.cell?_alloc_some _ _ _ (by rw [cnW]; rfl)]; exact cnW
    have cfX : (Wa.alloc (.cells #[.string s.now] 9)).cell? ⟨w.heap.size, 1, none⟩ = some (.slice Ab s.back.length cb) := by rw [World.cell?_alloc_some _ _ _ (by rw [cfW]; rfl)]; exact cfW
    have cnX : (Wa.alloc (.cells #[.string s.now] 9)).cell? ⟨w.heap.size, 2, none⟩ = some (.string s.now) := by rw [World.cell?_alloc_some _ _ _ (by rw [cnW]; rfl)]; exact cnW
    have cfEX : ((Wa.alloc (.cells #[] 9)).alloc (.cells #[.string s.now] 9)).cell? ⟨w.heap.size, 1, none⟩ = some (.slice Ab s.back.length cb) := by rw [World.cell?_alloc_some _ _ _ (by rw [cfE]; rfl)]; exact cfE
    have cnEX : ((Wa.alloc (.cells #[] 9)).alloc (.cells #[.string s.now] 9)).cell? ⟨w.heap.size, 2, none⟩ = some (.string s.now) := by rw [World.cell?_alloc_some _ _ _ (by rw [cnE]; rfl)]; exact cnE
    have cfXE : ((Wa.alloc (.cells #[.string s.now] 9)).alloc (.cells #[] 9)).cell? ⟨w.heap.size, 1, none⟩ = some (.slice Ab s.back.length cb) := by rw [World.cell?_alloc_some _ _ _ (by rw [cfX]; rfl)]; exact cfX
    have cnXE : ((Wa.alloc (.cells #[.string s.now] 9)).alloc (.cells #[] 9)).cell? ⟨w.heap.size, 2, none⟩ = some (.string s.now) := by rw [World.cell?_alloc_some _ _ _ (by rw [cnX]; rfl)]; exact cnX
    refine wp_region_last (S := (fun w' => w'.cell? ⟨w.heap.size, 1, none⟩ = some (.slice Ab s.back.length cb) ∧ w'.cell? ⟨w.heap.size, 2, none⟩ = some (.string s.now))) 9 (by kernel_rfl) ⟨cfW, cnW⟩ (fun hHeld => ?_)
    refine lastAny_take (i := 1) (oi := ⟨some 30, _, _, _, _, _⟩) (v := ?_) rfl (by kernel_rfl) (by kernel_rfl) (by kernel_rfl) (by kernel_rfl) (fun _ _ _ h => h) (Or.inl ⟨by kernel_rfl, ?hy1⟩) (by assumption) ?_
    case hy1 => (intro w' hSw; (try dsimp only at hSw); go_simp; try with_reducible rfl)
    simp only [Act.put, List.setIfInBounds_toArray, List.set_cons_zero, List.set_cons_succ]
    refine lastAny_take (i := 2) (oi := ⟨some 31, _, _, _, _, _⟩) (v := ?_) rfl (by kernel_rfl) (by kernel_rfl) (by kernel_rfl) (by kernel_rfl) (fun _ _ _ h => h) (Or.inl ⟨by kernel_rfl, ?hy2⟩) (by assumption) ?_
    case hy2 => (intro w' hSw; (try dsimp only at hSw); go_simp; try with_reducible rfl)
    simp only [Act.put, List.setIfInBounds_toArray, List.set_cons_zero, List.set_cons_succ]
    refine lastAny_take (i := 4) (oi := ⟨some 33, _, _, _, _, _⟩) (v := ?_) rfl (by kernel_rfl) (by kernel_rfl) (by kernel_rfl) (by kernel_rfl) (fun _ _ _ h => h) (Or.inl ⟨by kernel_rfl, ?hy4⟩) (by assumption) ?_
    case hy4 => (intro w' hSw; (try dsimp only at hSw); go_simp; try with_reducible rfl)
    simp only [Act.put, List.setIfInBounds_toArray, List.set_cons_zero, List.set_cons_succ]
    refine lastAny_take (i := 5) (oi := ⟨some 34, _, _, _, _, _⟩) (v := ?_) rfl (by kernel_rfl) (by kernel_rfl) (by kernel_rfl) (by kernel_rfl) (fun _ _ _ h => h) (Or.inl ⟨by kernel_rfl, ?hy5⟩) (by assumption) ?_
    case hy5 => (intro w' hSw; (try dsimp only at hSw); go_simp; try with_reducible rfl)
    simp only [Act.put, List.setIfInBounds_toArray, List.set_cons_zero, List.set_cons_succ]
    refine lastAny_ready (rs := [0, 6]) (by kernel_rfl) (by simp) ?_
    refine AllReadyL.cons (o := ⟨some 29, _, _, _, _, _⟩) rfl (fun K hK => ?_) (AllReadyL.cons (o := ⟨some 35, _, _, _, _, _⟩) rfl (fun K hK => ?_) AllReadyL.nil)
    · (rw [if_pos (by kernel_rfl)])
      go_simp
      refine hK.out _ _ ⟨cfE, cnE⟩ (fun hHeld => ?_)
      clear hK K
      refine lastAny_ready (rs := [3, 6]) (by kernel_rfl) (by simp) ?_
      refine AllReadyL.cons (o := ⟨some 32, _, _, _, _, _⟩) rfl (fun K hK => ?_) (AllReadyL.cons (o := ⟨some 35, _, _, _, _, _⟩) rfl (fun K hK => ?_) AllReadyL.nil)
      · obtain ⟨v2, w2, hr1, hb2, A', c', w4, hr2, hf⟩ := snocA Wa.drew Ab cb s.back s.now HRow.out.drew HNil.out HLen.out
        rw [show Wa.drew.heap.size = Wa.heap.size from rfl] at hr1 hb2
        (try rw [show Wa.drew.heap.size = Wa.heap.size from rfl] at hr2)
        have Hr1 := Lib.hid hr1
        have Hr2 := Lib.hid hr2
        have HF := Lib.hid hf.undrew
        have hb2' : Below Wa.heap.size Wa w2 := ⟨hb2.os, hb2.tape, hb2.output, hb2.size, hb2.block⟩
        have cf2 : (w2).cell? ⟨w.heap.size, 1, none⟩ = some (.slice Ab s.back.length cb) := (hb2'.cell (p := ⟨w.heap.size, 1, none⟩) (World.block_lt_of_cell? _ _ cfW)).trans cfW
        have cn2 : (w2).cell? ⟨w.heap.size, 2, none⟩ = some (.string s.now) := (hb2'.cell (p := ⟨w.heap.size, 2, none⟩) (World.block_lt_of_cell? _ _ cnW)).trans cnW
        have cf2X : (w2.alloc (.cells #[.string s.now] 9)).cell? ⟨w.heap.size, 1, none⟩ = some (.slice Ab s.back.length cb) := by rw [World.cell?_alloc_some _ _ _ (by rw [cf2]; rfl)]; exact cf2
        have cn2X : (w2.alloc (.cells #[.string s.now] 9)).cell? ⟨w.heap.size, 2, none⟩ = some (.string s.now) := by rw [World.cell?_alloc_some _ _ _ (by rw [cn2]; rfl)]; exact cn2
        have hb4 : Below Wa.heap.size Wa w4 := ⟨hf.1.os, hf.1.tape, hf.1.output, hf.1.size, hf.1.block⟩
        have cf4 : (w4).cell? ⟨w.heap.size, 1, none⟩ = some (.slice Ab s.back.length cb) := (hb4.cell (p := ⟨w.heap.size, 1, none⟩) (World.block_lt_of_cell? _ _ cfW)).trans cfW
        have cn4 : (w4).cell? ⟨w.heap.size, 2, none⟩ = some (.string s.now) := (hb4.cell (p := ⟨w.heap.size, 2, none⟩) (World.block_lt_of_cell? _ _ cnW)).trans cnW
        have ff4 : w4.frozen? ⟨w.heap.size, 1, none⟩ = false := (HbW.out.below hb4).free 1
        clear hr1 hr2 hf hb2 hb2' hb4
        refine step_append_g (by kernel_rfl) (.tmp 29) (.tmp 31) 27 rfl _ _ rfl rfl Hr1.out ?_
        refine hK.out _ _ ⟨cf2, cn2⟩ (fun hHeld => ?_)
        clear hK K
        refine lastAny_ready (rs := [6]) (by kernel_rfl) (by simp) ?_
        refine AllReadyL.cons (o := ⟨some 35, _, _, _, _, _⟩) rfl (fun K hK => ?_) AllReadyL.nil
        (rw [if_pos (by kernel_rfl)])
        go_simp
        refine hK.out _ _ ⟨cf2X, cn2X⟩ (fun hHeld => ?_)
        clear hK K
        refine lastAny_ready (rs := [7]) (by kernel_rfl) (by simp) ?_
        refine AllReadyL.cons (o := ⟨some 36, _, _, _, _, _⟩) rfl (fun K hK => ?_) AllReadyL.nil
        refine step_append_g (by kernel_rfl) (.tmp 32) (.tmp 35) 27 rfl _ _ rfl rfl Hr2.out ?_
        refine hK.out _ _ ⟨cf4, cn4⟩ (fun hHeld => ?_)
        clear hK K
        refine lastAny_take (i := 8) (oi := ⟨some 37, _, _, _, _, _⟩) (v := ?_) rfl (by kernel_rfl) (by kernel_rfl) (by kernel_rfl) (by kernel_rfl) (fun _ _ _ h => h) (Or.inl ⟨by kernel_rfl, ?hy8⟩) (by assumption) ?_
        case hy8 => (intro w' hSw; (try dsimp only at hSw); go_simp; try with_reducible rfl)
        simp only [Act.put, List.setIfInBounds_toArray, List.set_cons_zero, List.set_cons_succ]
        refine lastAny_end (by kernel_rfl) rfl (by kernel_rfl) (by kernel_rfl) (fun K hK => ?_)
        go_simp
        refine hK.out _ _ ?_
        clear hK K
        clear cf4 cn4 cf2 cn2 cf2X cn2X cfE cnE cfX cnX cfEX cnEX cfXE cnXE Hr1 Hr2
        go_wp2_with fail
        go_meet
        exact ⟨A', c', w4, rfl, rfl, HF⟩
      · (rw [if_pos (by kernel_rfl)])
        go_simp
        refine hK.out _ _ ⟨cfEX, cnEX⟩ (fun hHeld => ?_)
        clear hK K
        obtain ⟨v2, w2, hr1, hb2, A', c', w4, hr2, hf⟩ := snocB Wa.drew Ab cb s.back s.now HRow.out.drew HNil.out HLen.out
        rw [show Wa.drew.heap.size = Wa.heap.size from rfl] at hr1 hb2
        (try rw [show Wa.drew.heap.size = Wa.heap.size from rfl] at hr2)
        have Hr1 := Lib.hid hr1
        have Hr2 := Lib.hid hr2
        have HF := Lib.hid hf.undrew
        have hb2' : Below Wa.heap.size Wa w2 := ⟨hb2.os, hb2.tape, hb2.output, hb2.size, hb2.block⟩
        have cf2 : (w2).cell? ⟨w.heap.size, 1, none⟩ = some (.slice Ab s.back.length cb) := (hb2'.cell (p := ⟨w.heap.size, 1, none⟩) (World.block_lt_of_cell? _ _ cfW)).trans cfW
        have cn2 : (w2).cell? ⟨w.heap.size, 2, none⟩ = some (.string s.now) := (hb2'.cell (p := ⟨w.heap.size, 2, none⟩) (World.block_lt_of_cell? _ _ cnW)).trans cnW
        have cf2X : (w2.alloc (.cells #[.string s.now] 9)).cell? ⟨w.heap.size, 1, none⟩ = some (.slice Ab s.back.length cb) := by rw [World.cell?_alloc_some _ _ _ (by rw [cf2]; rfl)]; exact cf2
        have cn2X : (w2.alloc (.cells #[.string s.now] 9)).cell? ⟨w.heap.size, 2, none⟩ = some (.string s.now) := by rw [World.cell?_alloc_some _ _ _ (by rw [cn2]; rfl)]; exact cn2
        have hb4 : Below Wa.heap.size Wa w4 := ⟨hf.1.os, hf.1.tape, hf.1.output, hf.1.size, hf.1.block⟩
        have cf4 : (w4).cell? ⟨w.heap.size, 1, none⟩ = some (.slice Ab s.back.length cb) := (hb4.cell (p := ⟨w.heap.size, 1, none⟩) (World.block_lt_of_cell? _ _ cfW)).trans cfW
        have cn4 : (w4).cell? ⟨w.heap.size, 2, none⟩ = some (.string s.now) := (hb4.cell (p := ⟨w.heap.size, 2, none⟩) (World.block_lt_of_cell? _ _ cnW)).trans cnW
        have ff4 : w4.frozen? ⟨w.heap.size, 1, none⟩ = false := (HbW.out.below hb4).free 1
        clear hr1 hr2 hf hb2 hb2' hb4
        refine lastAny_ready (rs := [3]) (by kernel_rfl) (by simp) ?_
        refine AllReadyL.cons (o := ⟨some 32, _, _, _, _, _⟩) rfl (fun K hK => ?_) AllReadyL.nil
        refine step_append_g (by kernel_rfl) (.tmp 29) (.tmp 31) 27 rfl _ _ rfl rfl Hr1.out ?_
        refine hK.out _ _ ⟨cf2, cn2⟩ (fun hHeld => ?_)
        clear hK K
        refine lastAny_ready (rs := [7]) (by kernel_rfl) (by simp) ?_
        refine AllReadyL.cons (o := ⟨some 36, _, _, _, _, _⟩) rfl (fun K hK => ?_) AllReadyL.nil
        refine step_append_g (by kernel_rfl) (.tmp 32) (.tmp 35) 27 rfl _ _ rfl rfl Hr2.out ?_
        refine hK.out _ _ ⟨cf4, cn4⟩ (fun hHeld => ?_)
        clear hK K
        refine lastAny_take (i := 8) (oi := ⟨some 37, _, _, _, _, _⟩) (v := ?_) rfl (by kernel_rfl) (by kernel_rfl) (by kernel_rfl) (by kernel_rfl) (fun _ _ _ h => h) (Or.inl ⟨by kernel_rfl, ?hy8⟩) (by assumption) ?_
        case hy8 => (intro w' hSw; (try dsimp only at hSw); go_simp; try with_reducible rfl)
        simp only [Act.put, List.setIfInBounds_toArray, List.set_cons_zero, List.set_cons_succ]
        refine lastAny_end (by kernel_rfl) rfl (by kernel_rfl) (by kernel_rfl) (fun K hK => ?_)
        go_simp
        refine hK.out _ _ ?_
        clear hK K
        clear cf4 cn4 cf2 cn2 cf2X cn2X cfE cnE cfX cnX cfEX cnEX cfXE cnXE Hr1 Hr2
        go_wp2_with fail
        go_meet
        exact ⟨A', c', w4, rfl, rfl, HF⟩
    · (rw [if_pos (by kernel_rfl)])
      go_simp
      refine hK.out _ _ ⟨cfX, cnX⟩ (fun hHeld => ?_)
      clear hK K
      refine lastAny_ready (rs := [0]) (by kernel_rfl) (by simp) ?_
      refine AllReadyL.cons (o := ⟨some 29, _, _, _, _, _⟩) rfl (fun K hK => ?_) AllReadyL.nil
      (rw [if_pos (by kernel_rfl)])
      go_simp
      refine hK.out _ _ ⟨cfXE, cnXE⟩ (fun hHeld => ?_)
      clear hK K
      obtain ⟨v2, w2, hr1, hb2, A', c', w4, hr2, hf⟩ := snocC Wa.drew Ab cb s.back s.now HRow.out.drew HNil.out HLen.out
      rw [show Wa.drew.heap.size = Wa.heap.size from rfl] at hr1 hb2
      (try rw [show Wa.drew.heap.size = Wa.heap.size from rfl] at hr2)
      have Hr1 := Lib.hid hr1
      have Hr2 := Lib.hid hr2
      have HF := Lib.hid hf.undrew
      have hb2' : Below Wa.heap.size Wa w2 := ⟨hb2.os, hb2.tape, hb2.output, hb2.size, hb2.block⟩
      have cf2 : (w2).cell? ⟨w.heap.size, 1, none⟩ = some (.slice Ab s.back.length cb) := (hb2'.cell (p := ⟨w.heap.size, 1, none⟩) (World.block_lt_of_cell? _ _ cfW)).trans cfW
      have cn2 : (w2).cell? ⟨w.heap.size, 2, none⟩ = some (.string s.now) := (hb2'.cell (p := ⟨w.heap.size, 2, none⟩) (World.block_lt_of_cell? _ _ cnW)).trans cnW
      have cf2X : (w2.alloc (.cells #[.string s.now] 9)).cell? ⟨w.heap.size, 1, none⟩ = some (.slice Ab s.back.length cb) := by rw [World.cell?_alloc_some _ _ _ (by rw [cf2]; rfl)]; exact cf2
      have cn2X : (w2.alloc (.cells #[.string s.now] 9)).cell? ⟨w.heap.size, 2, none⟩ = some (.string s.now) := by rw [World.cell?_alloc_some _ _ _ (by rw [cn2]; rfl)]; exact cn2
      have hb4 : Below Wa.heap.size Wa w4 := ⟨hf.1.os, hf.1.tape, hf.1.output, hf.1.size, hf.1.block⟩
      have cf4 : (w4).cell? ⟨w.heap.size, 1, none⟩ = some (.slice Ab s.back.length cb) := (hb4.cell (p := ⟨w.heap.size, 1, none⟩) (World.block_lt_of_cell? _ _ cfW)).trans cfW
      have cn4 : (w4).cell? ⟨w.heap.size, 2, none⟩ = some (.string s.now) := (hb4.cell (p := ⟨w.heap.size, 2, none⟩) (World.block_lt_of_cell? _ _ cnW)).trans cnW
      have ff4 : w4.frozen? ⟨w.heap.size, 1, none⟩ = false := (HbW.out.below hb4).free 1
      clear hr1 hr2 hf hb2 hb2' hb4
      refine lastAny_ready (rs := [3]) (by kernel_rfl) (by simp) ?_
      refine AllReadyL.cons (o := ⟨some 32, _, _, _, _, _⟩) rfl (fun K hK => ?_) AllReadyL.nil
      refine step_append_g (by kernel_rfl) (.tmp 29) (.tmp 31) 27 rfl _ _ rfl rfl Hr1.out ?_
      refine hK.out _ _ ⟨cf2, cn2⟩ (fun hHeld => ?_)
      clear hK K
      refine lastAny_ready (rs := [7]) (by kernel_rfl) (by simp) ?_
      refine AllReadyL.cons (o := ⟨some 36, _, _, _, _, _⟩) rfl (fun K hK => ?_) AllReadyL.nil
      refine step_append_g (by kernel_rfl) (.tmp 32) (.tmp 35) 27 rfl _ _ rfl rfl Hr2.out ?_
      refine hK.out _ _ ⟨cf4, cn4⟩ (fun hHeld => ?_)
      clear hK K
      refine lastAny_take (i := 8) (oi := ⟨some 37, _, _, _, _, _⟩) (v := ?_) rfl (by kernel_rfl) (by kernel_rfl) (by kernel_rfl) (by kernel_rfl) (fun _ _ _ h => h) (Or.inl ⟨by kernel_rfl, ?hy8⟩) (by assumption) ?_
      case hy8 => (intro w' hSw; (try dsimp only at hSw); go_simp; try with_reducible rfl)
      simp only [Act.put, List.setIfInBounds_toArray, List.set_cons_zero, List.set_cons_succ]
      refine lastAny_end (by kernel_rfl) rfl (by kernel_rfl) (by kernel_rfl) (fun K hK => ?_)
      go_simp
      refine hK.out _ _ ?_
      clear hK K
      clear cf4 cn4 cf2 cn2 cf2X cn2X cfE cnE cfX cnX cfEX cnEX cfXE cnXE Hr1 Hr2
      go_wp2_with fail
      go_meet
      exact ⟨A', c', w4, rfl, rfl, HF⟩
  case rest =>
    obtain ⟨A', c', w4, rfl, hwc, HF⟩ := hcut
    obtain ⟨hb4, hrd, hcc, hcm, hcn, hfr⟩ := HF.out
    have b4 : BxA wc w.heap.size 29 [.int .i64 (s.lim : Int), .slice A' (s.back.length + 1) c', .string s.now, .slice none 0 0, .int .i64 s.opn] := by rw [hwc]; exact (HbW.out.below hb4).set 1 _
    have o4 : BxA wc (w.heap.size + 1) 32 [.int .i64 0, .string t, .int .i64 g] := by rw [hwc]; exact (HoW.out.below hb4).other (by omega) _
    have z4 : BxA wc (w.heap.size + 1 + 1) 29 [.int .i64 0, .slice none 0 0, .string ⟨#[]⟩, .slice none 0 0, .int .i64 0] := by rw [hwc]; exact (HzW.out.below hb4).other (by omega) _
    have hBw : Below w.heap.size w w4 := HBW.out.trans (hb4.mono HBW.out.size)
    have hB4 : Below w.heap.size w wc := by rw [hwc]; exact hBw.setCell (p := ⟨w.heap.size, 1, none⟩) (Nat.le_refl _) _
    have c40 := b4.c 0 rfl
    have c41 := b4.c 1 rfl
    have c42 := b4.c 2 rfl
    have c44 := b4.c 4 rfl
    have f41 := b4.free 1
    have f42 := b4.free 2
    have f44 := b4.free 4
    have o41 := o4.c 1 rfl
    have o42 := o4.c 2 rfl
    have Hb4 := Lib.hid b4
    have Ho4 := Lib.hid o4
    have Hz4 := Lib.hid z4
    have HB4 := Lib.hid hB4
    have Hwc := Lib.hid hwc
    have hO4 : Only (fun i => i = w.heap.size) w4 wc := by rw [hwc]; exact (Only.refl (fun i => i = w.heap.size) w4).set (p := ⟨w.heap.size, 1, none⟩) (.inl rfl) _
    have HO4 := Lib.hid hO4
    have hpos := Hok.out.pos
    clear b4 o4 z4 hBw hB4 hwc hO4 hb4
    by_cases hdrop : s.lim < s.back.length + 1
    · have hnl : nb.length = s.back.length := by rw [← hnb.out, lastN_length]; simp; omega
      have hnt : nb = (s.back ++ [s.now]).tail := by
        rw [← hnb.out]; unfold lastN
        rw [show (s.back ++ [s.now]).length - s.lim = 1 by simp; omega, List.drop_one]
      obtain ⟨g', o', rfl, hg', _⟩ := hrd.at_ (by simp)
      have hrn : RdV Value.string w4 (some ⟨g', o' + 1, none⟩) nb := by rw [hnt]; exact hrd.tail
      clear hnt
      have hgt : decide ((s.lim : Int) < ((s.back.length + 1 : Nat) : Int)) = true := decide_eq_true (by omega)
      have hgt' : decide (s.lim < s.back.length + 1) = true := decide_eq_true hdrop
      have hc1 : ¬ c' = 1 := by omega
      have hc1' : ¬ 1 = c' := by omega
      have h1c : 1 ≤ c' := by omega
      obtain ⟨Wn, hWn⟩ : ∃ Wn, ((((wc.setCell ⟨w.heap.size, 1, none⟩ (.slice (some ⟨g', o' + 1, none⟩) s.back.length (c' - 1))).setCell ⟨w.heap.size, 2, none⟩ (.string t)).setCell ⟨w.heap.size, 4, none⟩ (.int .i64 0)).setCell ⟨w.heap.size, 4, none⟩ (.int .i64 g)) = Wn := ⟨_, rfl⟩
      have HW : Hid (Below w.heap.size w Wn) := Lib.hid (by rw [← hWn]; exact ((((HB4.out).setCell (p := ⟨w.heap.size, 1, none⟩) (Nat.le_refl _) _).setCell (p := ⟨w.heap.size, 2, none⟩) (Nat.le_refl _) _).setCell (p := ⟨w.heap.size, 4, none⟩) (Nat.le_refl _) _).setCell (p := ⟨w.heap.size, 4, none⟩) (Nat.le_refl _) _)
      have hON : Only (fun i => i = w.heap.size) w4 Wn := by rw [← hWn]; exact ((((HO4.out).set (p := ⟨w.heap.size, 1, none⟩) (.inl rfl) _).set (p := ⟨w.heap.size, 2, none⟩) (.inl rfl) _).set (p := ⟨w.heap.size, 4, none⟩) (.inl rfl) _).set (p := ⟨w.heap.size, 4, none⟩) (.inl rfl) _
      have bN : BxA Wn w.heap.size 29 [.int .i64 (s.lim : Int), .slice (some ⟨g', o' + 1, none⟩) (s.back.length) (c' - 1), .string t, .slice none 0 0, .int .i64 g] := by rw [← hWn]; exact ((((Hb4.out.set 1 _).set 2 _).set 4 _).set 4 _)
      have zN : BxA Wn (w.heap.size + 1 + 1) 29 [.int .i64 0, .slice none 0 0, .string ⟨#[]⟩, .slice none 0 0, .int .i64 0] := by rw [← hWn]; exact ((((Hz4.out.other (by omega) _).other (by omega) _).other (by omega) _).other (by omega) _)
      have oN : BxA Wn (w.heap.size + 1) 32 [.int .i64 0, .string t, .int .i64 g] := by rw [← hWn]; exact ((((Ho4.out.other (by omega) _).other (by omega) _).other (by omega) _).other (by omega) _)
      have p1 := oN.c 1 rfl
      have p2 := oN.c 2 rfl
      clear oN
      have n0 := bN.c 0 rfl
      have n1 := bN.c 1 rfl
      have n2 := bN.c 2 rfl
      have n3 := bN.c 3 rfl
      have n4 := bN.c 4 rfl
      have a0 := zN.c 0 rfl
      have a1 := zN.c 1 rfl
      have a2 := zN.c 2 rfl
      have a3 := zN.c 3 rfl
      have a4 := zN.c 4 rfl
      have b0 := zN.free 0
      have b1 := zN.free 1
      have b2 := zN.free 2
      have b3 := zN.free 3
      have b4 := zN.free 4
      have hsa : Wa.heap.size = w.heap.size + 3 := hsWa.out
      have fin := fin6 (w := w) (M := w.heap.size + 1 + 1) (Ab := Ab) (Af := Af) (Ab' := (some ⟨g', o' + 1, none⟩)) (cb' := (c' - 1)) (Af' := none) (cf' := 0) (s' := (⟨s.lim, nb, t, [], g⟩ : LS ByteArray)) true HW.out (by omega) zN (fun W' ho => ⟨(hrn.keep hON (fun a e => by have := hfr ⟨g', o', none⟩ rfl; cases e; simp only at this ⊢; omega)).keep ho (fun a e => by have := hfr ⟨g', o', none⟩ rfl; cases e; simp only at this ⊢; omega), (by show nb.length ≤ (c' - 1); omega), (by omega), fun e => (by cases e), fun hn => absurd hn (Nat.lt_irrefl 0), Nat.zero_le _, by unfold maxLen; omega, fun _ => rfl⟩) (fun a e => .inr (by have := hfr ⟨g', o', none⟩ rfl; cases e; simp only at this ⊢; have := hON.size; omega)) (NearL.none _ _ _)
      dsimp only [docL] at fin
      rw [hnl] at fin
      have Fin := Lib.hid fin
      clear fin bN zN hON hsa hrd hrn hfr HF hnl
      go_wp2
      refine bodyPost_ret (results_bxA2 rfl _ _ (w.heap.size + 1 + 1) _ _ _ _ _ _ 29 rfl rfl Fin.out.1 Try.underlying29 (sizeState6 _)) rfl ?_
      exact Fin.out.2
    · have hnl : nb.length = s.back.length + 1 := by rw [← hnb.out, lastN_length]; simp; omega
      have hrn : RdV Value.string w4 A' nb := by rw [← hnb.out, lastN_all (by simp; omega)]; exact hrd
      have hgt : decide ((s.lim : Int) < ((s.back.length + 1 : Nat) : Int)) = false := decide_eq_false (by omega)
      have hgt' : decide (s.lim < s.back.length + 1) = false := decide_eq_false hdrop
      obtain ⟨Wn, hWn⟩ : ∃ Wn, (((wc.setCell ⟨w.heap.size, 2, none⟩ (.string t)).setCell ⟨w.heap.size, 4, none⟩ (.int .i64 0)).setCell ⟨w.heap.size, 4, none⟩ (.int .i64 g)) = Wn := ⟨_, rfl⟩
      have HW : Hid (Below w.heap.size w Wn) := Lib.hid (by rw [← hWn]; exact (((HB4.out).setCell (p := ⟨w.heap.size, 2, none⟩) (Nat.le_refl _) _).setCell (p := ⟨w.heap.size, 4, none⟩) (Nat.le_refl _) _).setCell (p := ⟨w.heap.size, 4, none⟩) (Nat.le_refl _) _)
      have hON : Only (fun i => i = w.heap.size) w4 Wn := by rw [← hWn]; exact (((HO4.out).set (p := ⟨w.heap.size, 2, none⟩) (.inl rfl) _).set (p := ⟨w.heap.size, 4, none⟩) (.inl rfl) _).set (p := ⟨w.heap.size, 4, none⟩) (.inl rfl) _
      have bN : BxA Wn w.heap.size 29 [.int .i64 (s.lim : Int), .slice A' (s.back.length + 1) c', .string t, .slice none 0 0, .int .i64 g] := by rw [← hWn]; exact (((Hb4.out.set 2 _).set 4 _).set 4 _)
      have zN : BxA Wn (w.heap.size + 1 + 1) 29 [.int .i64 0, .slice none 0 0, .string ⟨#[]⟩, .slice none 0 0, .int .i64 0] := by rw [← hWn]; exact (((Hz4.out.other (by omega) _).other (by omega) _).other (by omega) _)
      have oN : BxA Wn (w.heap.size + 1) 32 [.int .i64 0, .string t, .int .i64 g] := by rw [← hWn]; exact (((Ho4.out.other (by omega) _).other (by omega) _).other (by omega) _)
      have p1 := oN.c 1 rfl
      have p2 := oN.c 2 rfl
      clear oN
      have n0 := bN.c 0 rfl
      have n1 := bN.c 1 rfl
      have n2 := bN.c 2 rfl
      have n3 := bN.c 3 rfl
      have n4 := bN.c 4 rfl
      have a0 := zN.c 0 rfl
      have a1 := zN.c 1 rfl
      have a2 := zN.c 2 rfl
      have a3 := zN.c 3 rfl
      have a4 := zN.c 4 rfl
      have b0 := zN.free 0
      have b1 := zN.free 1
      have b2 := zN.free 2
      have b3 := zN.free 3
      have b4 := zN.free 4
      have hsa : Wa.heap.size = w.heap.size + 3 := hsWa.out
      have fin := fin6 (w := w) (M := w.heap.size + 1 + 1) (Ab := Ab) (Af := Af) (Ab' := A') (cb' := c') (Af' := none) (cf' := 0) (s' := (⟨s.lim, nb, t, [], g⟩ : LS ByteArray)) true HW.out (by omega) zN (fun W' ho => ⟨(hrn.keep hON (fun a e => by have := hfr a e; omega)).keep ho (fun a e => by have := hfr a e; omega), (by show nb.length ≤ c'; omega), (by omega), fun e => hcn e, fun hn => absurd hn (Nat.lt_irrefl 0), Nat.zero_le _, by unfold maxLen; omega, fun _ => rfl⟩) (fun a e => .inr (by have := hfr a e; have := hON.size; omega)) (NearL.none _ _ _)
      dsimp only [docL] at fin
      rw [hnl] at fin
      have Fin := Lib.hid fin
      clear fin bN zN hON hsa hrd hrn hfr HF hnl
      go_wp2
      refine bodyPost_ret (results_bxA2 rfl _ _ (w.heap.size + 1 + 1) _ _ _ _ _ _ 29 rfl rfl Fin.out.1 Try.underlying29 (sizeState6 _)) rfl ?_
      exact Fin.out.2
end Go.Proofs.Ytgcafmofpflidaa
