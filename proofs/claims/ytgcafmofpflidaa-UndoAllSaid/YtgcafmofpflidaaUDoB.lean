/-
  The document's own Do (layer 6).
-/
import Derived.Test.YtgcafmofpflidaaUDo
import Derived.Lib.Strings
import Derived.Test.YtgcafmofpflidaaLast
import Derived.Test.YtgcafmofpflidaaSnoc
import Derived.Deep.RegionHeld3
import Derived.Deep.RegionLaw
import Derived.Deep.Cut
import Derived.BigRegion
namespace Go.Proofs.Ytgcafmofpflidaa
open Go Go.RowKit
set_option maxRecDepth 100000

set_option maxHeartbeats 4000000 in
theorem udo_undo (Ab : Option Addr) (cb : Nat) (Af : Option Addr) (cf : Nat) (s : LS ByteArray) (t : ByteArray) (g : Int) (w : World) (h : DocL w Ab cb Af cf s) (hok : s.Ok) (b : List ByteArray) (y : ByteArray) (hb : s.back = b ++ [y]) :
    Calls Try.prog 13 #[docL Ab cb Af cf s, opV ⟨3, t, g⟩] w (DidU w Ab Af (doU s ⟨3, t, g⟩) (didU s ⟨3, t, g⟩)) := by
  obtain ⟨W3, hW3, hB3, hs3, b0, o0, z0⟩ := boxes6 Ab cb Af cf s 3 t g w
  have w0 := b0.c 0 rfl
  have w1 := b0.c 1 rfl
  have w2 := b0.c 2 rfl
  have w3 := b0.c 3 rfl
  have w4 := b0.c 4 rfl
  have v0 := b0.free 0
  have v1 := b0.free 1
  have v2 := b0.free 2
  have v3 := b0.free 3
  have v4 := b0.free 4
  have o0' := o0.c 0 rfl
  have o1' := o0.c 1 rfl
  have o2' := o0.c 2 rfl
  have g0 := z0.c 0 rfl
  have g1 := z0.c 1 rfl
  have g2 := z0.c 2 rfl
  have g3 := z0.c 3 rfl
  have g4 := z0.c 4 rfl
  have k0 := z0.free 0
  have k1 := z0.free 1
  have k2 := z0.free 2
  have k3 := z0.free 3
  have k4 := z0.free 4
  have hln := hok.len
  have hle := hok.le
  have Hb0 := Lib.hid b0
  have Ho0 := Lib.hid o0
  have Hz0 := Lib.hid z0
  have Hh := Lib.hid h
  have Hok := Lib.hid hok
  have HB3 := Lib.hid hB3
  have Hs3 := Lib.hid hs3
  clear b0 o0 z0 h hok hB3 hs3
  obtain ⟨ns, hns0⟩ : ∃ ns, s.forth ++ [s.now] = ns := ⟨_, rfl⟩
  have hd0 : doU s ⟨3, t, g⟩ = (⟨s.lim, b, y, ns, 0⟩ : LS ByteArray) := by rw [show doU s ⟨3, t, g⟩ = s.undo from rfl, LS.undo_some hb, ← hns0]
  rw [hd0, show didU s ⟨3, t, g⟩ = true from by show decide (s.back ≠ []) = true; rw [hb]; simp]
  have hnl : ns.length = s.forth.length + 1 := by rw [← hns0]; simp
  have hbl : b.length = s.back.length - 1 := by rw [hb]; simp
  have hol : 0 < s.back.length := by rw [hb]; simp
  have hbt : b = s.back.take (s.back.length - 1) := by rw [hb]; simp
  have hy : s.back[s.back.length - 1]? = some y := by rw [hb]; simp
  have HNS := Lib.hid hns0
  have HNL := Lib.hid hnl
  have HBL := Lib.hid hbl
  have HBT := Lib.hid hbt
  clear hd0 hns0 hb hnl hbl hbt
  obtain ⟨gx, ox, rfl, hgx, hcx⟩ := Hh.out.rb.at_ hol
  have cy := hcx _ _ hy
  clear hcx hy
  have hn0 : ((s.back.length : Int) == 0) = false := beq_eq_false_iff_ne.2 (by omega)
  have hns1 : IntKind.i64.wrap ((s.back.length : Int) - 1) = ((s.back.length - 1 : Nat) : Int) := by rw [IntWalk.i64_in _ (by omega)]; omega
  have hi1 : s.back.length - 1 < s.back.length := by omega
  have hi2 : ((s.back.length - 1 : Nat) : Int) < (s.back.length : Int) := by omega
  have hcap : s.back.length ≤ cb := Hh.out.capb
  have hcm : cb ≤ maxLen := Hh.out.maxb
  have hcap1 : s.back.length - 1 ≤ cb := by omega
  have cfW := w3
  have cnW := w2
  have HbW := Hb0
  have hsW3 := Hs3
  have HRow := Lib.hid (Hh.out.rf.below HB3.out)
  have HNil := Lib.hid Hh.out.nilf
  have HLen : Hid (s.forth.length ≤ 100000) := Lib.hid (by omega)
  unfold docL opV
  go_enter Try.func13, Try.ntmps13
  go_upto_region 23 with fail
  go_cut [82] from 75 (fun s36 wc => ∃ A' c' w4, s36 = .slice A' (s.forth.length + 1) c' ∧ wc = w4.setCell ⟨w.heap.size, 3, none⟩ (.slice A' (s.forth.length + 1) c') ∧ Hid (SnocFin W3 s.forth s.now A' c' w4))
  case first =>
    have cfE : (W3.alloc (.cells #[] 9)).cell? ⟨w.heap.size, 3, none⟩ = some (.slice Af s.forth.length cf) := by rw [World.cell?_alloc_some _ _ _ (by rw [cfW]; rfl)]; exact cfW
    have cnE : (W3.alloc (.cells #[] 9)).cell? ⟨w.heap.size, 2, none⟩ = some (.string s.now) := by rw [World.cell?_alloc_some _ _ _ (by rw [cnW]; rfl)]; exact cnW
    have cfX : (W3.alloc (.cells #[.string s.now] 9)).cell? ⟨w.heap.size, 3, none⟩ = some (.slice Af s.forth.length cf) := by rw [World.cell?_alloc_some _ _ _ (by rw [cfW]; rfl)]; exact cfW
    have cnX : (W3.alloc (.cells #[.string s.now] 9)).cell? ⟨w.heap.size, 2, none⟩ = some (.string s.now) := by rw [World.cell?_alloc_some _ _ _ (by rw [cnW]; rfl)]; exact cnW
    have cfEX : ((W3.alloc (.cells #[] 9)).alloc (.cells #[.string s.now] 9)).cell? ⟨w.heap.size, 3, none⟩ = some (.slice Af s.forth.length cf) := by rw [World.cell?_alloc_some _ _ _ (by rw [cfE]; rfl)]; exact cfE
    have cnEX : ((W3.alloc (.cells #[] 9)).alloc (.cells #[.string s.now] 9)).cell? ⟨w.heap.size, 2, none⟩ = some (.string s.now) := by rw [World.cell?_alloc_some _ _ _ (by rw [cnE]; rfl)]; exact cnE
    have cfXE : ((W3.alloc (.cells #[.string s.now] 9)).alloc (.cells #[] 9)).cell? ⟨w.heap.size, 3, none⟩ = some (.slice Af s.forth.length cf) := by rw [World.cell?_alloc_some _ _ _ (by rw [cfX]; rfl)]; exact cfX
    have cnXE : ((W3.alloc (.cells #[.string s.now] 9)).alloc (.cells #[] 9)).cell? ⟨w.heap.size, 2, none⟩ = some (.string s.now) := by rw [World.cell?_alloc_some _ _ _ (by rw [cnX]; rfl)]; exact cnX
    refine wp_region_last (S := (fun w' => w'.cell? ⟨w.heap.size, 3, none⟩ = some (.slice Af s.forth.length cf) ∧ w'.cell? ⟨w.heap.size, 2, none⟩ = some (.string s.now))) 9 (by kernel_rfl) ⟨cfW, cnW⟩ (fun hHeld => ?_)
    refine lastAny_take (i := 1) (oi := ⟨some 76, _, _, _, _, _⟩) (v := ?_) rfl (by kernel_rfl) (by kernel_rfl) (by kernel_rfl) (by kernel_rfl) (fun _ _ _ h => h) (Or.inl ⟨by kernel_rfl, ?hy1⟩) (by assumption) ?_
    case hy1 => (intro w' hSw; (try dsimp only at hSw); go_simp; try with_reducible rfl)
    simp only [Act.put, List.setIfInBounds_toArray, List.set_cons_zero, List.set_cons_succ]
    refine lastAny_take (i := 2) (oi := ⟨some 77, _, _, _, _, _⟩) (v := ?_) rfl (by kernel_rfl) (by kernel_rfl) (by kernel_rfl) (by kernel_rfl) (fun _ _ _ h => h) (Or.inl ⟨by kernel_rfl, ?hy2⟩) (by assumption) ?_
    case hy2 => (intro w' hSw; (try dsimp only at hSw); go_simp; try with_reducible rfl)
    simp only [Act.put, List.setIfInBounds_toArray, List.set_cons_zero, List.set_cons_succ]
    refine lastAny_take (i := 4) (oi := ⟨some 79, _, _, _, _, _⟩) (v := ?_) rfl (by kernel_rfl) (by kernel_rfl) (by kernel_rfl) (by kernel_rfl) (fun _ _ _ h => h) (Or.inl ⟨by kernel_rfl, ?hy4⟩) (by assumption) ?_
    case hy4 => (intro w' hSw; (try dsimp only at hSw); go_simp; try with_reducible rfl)
    simp only [Act.put, List.setIfInBounds_toArray, List.set_cons_zero, List.set_cons_succ]
    refine lastAny_take (i := 5) (oi := ⟨some 80, _, _, _, _, _⟩) (v := ?_) rfl (by kernel_rfl) (by kernel_rfl) (by kernel_rfl) (by kernel_rfl) (fun _ _ _ h => h) (Or.inl ⟨by kernel_rfl, ?hy5⟩) (by assumption) ?_
    case hy5 => (intro w' hSw; (try dsimp only at hSw); go_simp; try with_reducible rfl)
    simp only [Act.put, List.setIfInBounds_toArray, List.set_cons_zero, List.set_cons_succ]
    refine lastAny_ready (rs := [0, 6]) (by kernel_rfl) (by simp) ?_
    refine AllReadyL.cons (o := ⟨some 75, _, _, _, _, _⟩) rfl (fun K hK => ?_) (AllReadyL.cons (o := ⟨some 81, _, _, _, _, _⟩) rfl (fun K hK => ?_) AllReadyL.nil)
    · (rw [if_pos (by kernel_rfl)])
      go_simp
      refine hK.out _ _ ⟨cfE, cnE⟩ (fun hHeld => ?_)
      clear hK K
      refine lastAny_ready (rs := [3, 6]) (by kernel_rfl) (by simp) ?_
      refine AllReadyL.cons (o := ⟨some 78, _, _, _, _, _⟩) rfl (fun K hK => ?_) (AllReadyL.cons (o := ⟨some 81, _, _, _, _, _⟩) rfl (fun K hK => ?_) AllReadyL.nil)
      · obtain ⟨v2, w2, hr1, hb2, A', c', w4, hr2, hf⟩ := snocA W3.drew Af cf s.forth s.now HRow.out.drew HNil.out HLen.out
        rw [show W3.drew.heap.size = W3.heap.size from rfl] at hr1 hb2
        (try rw [show W3.drew.heap.size = W3.heap.size from rfl] at hr2)
        have Hr1 := Lib.hid hr1
        have Hr2 := Lib.hid hr2
        have HF := Lib.hid hf.undrew
        have hb2' : Below W3.heap.size W3 w2 := ⟨hb2.os, hb2.tape, hb2.output, hb2.size, hb2.block⟩
        have cf2 : (w2).cell? ⟨w.heap.size, 3, none⟩ = some (.slice Af s.forth.length cf) := (hb2'.cell (p := ⟨w.heap.size, 3, none⟩) (World.block_lt_of_cell? _ _ cfW)).trans cfW
        have cn2 : (w2).cell? ⟨w.heap.size, 2, none⟩ = some (.string s.now) := (hb2'.cell (p := ⟨w.heap.size, 2, none⟩) (World.block_lt_of_cell? _ _ cnW)).trans cnW
        have cf2X : (w2.alloc (.cells #[.string s.now] 9)).cell? ⟨w.heap.size, 3, none⟩ = some (.slice Af s.forth.length cf) := by rw [World.cell?_alloc_some _ _ _ (by rw [cf2]; rfl)]; exact cf2
        have cn2X : (w2.alloc (.cells #[.string s.now] 9)).cell? ⟨w.heap.size, 2, none⟩ = some (.string s.now) := by rw [World.cell?_alloc_some _ _ _ (by rw [cn2]; rfl)]; exact cn2
        have hb4 : Below W3.heap.size W3 w4 := ⟨hf.1.os, hf.1.tape, hf.1.output, hf.1.size, hf.1.block⟩
        have cf4 : (w4).cell? ⟨w.heap.size, 3, none⟩ = some (.slice Af s.forth.length cf) := (hb4.cell (p := ⟨w.heap.size, 3, none⟩) (World.block_lt_of_cell? _ _ cfW)).trans cfW
        have cn4 : (w4).cell? ⟨w.heap.size, 2, none⟩ = some (.string s.now) := (hb4.cell (p := ⟨w.heap.size, 2, none⟩) (World.block_lt_of_cell? _ _ cnW)).trans cnW
        have ff4 : w4.frozen? ⟨w.heap.size, 3, none⟩ = false := (HbW.out.below hb4).free 3
        clear hr1 hr2 hf hb2 hb2' hb4
        refine step_append_g (by kernel_rfl) (.tmp 75) (.tmp 77) 27 rfl _ _ rfl rfl Hr1.out ?_
        refine hK.out _ _ ⟨cf2, cn2⟩ (fun hHeld => ?_)
        clear hK K
        refine lastAny_ready (rs := [6]) (by kernel_rfl) (by simp) ?_
        refine AllReadyL.cons (o := ⟨some 81, _, _, _, _, _⟩) rfl (fun K hK => ?_) AllReadyL.nil
        (rw [if_pos (by kernel_rfl)])
        go_simp
        refine hK.out _ _ ⟨cf2X, cn2X⟩ (fun hHeld => ?_)
        clear hK K
        refine lastAny_ready (rs := [7]) (by kernel_rfl) (by simp) ?_
        refine AllReadyL.cons (o := ⟨some 82, _, _, _, _, _⟩) rfl (fun K hK => ?_) AllReadyL.nil
        refine step_append_g (by kernel_rfl) (.tmp 78) (.tmp 81) 27 rfl _ _ rfl rfl Hr2.out ?_
        refine hK.out _ _ ⟨cf4, cn4⟩ (fun hHeld => ?_)
        clear hK K
        refine lastAny_take (i := 8) (oi := ⟨some 83, _, _, _, _, _⟩) (v := ?_) rfl (by kernel_rfl) (by kernel_rfl) (by kernel_rfl) (by kernel_rfl) (fun _ _ _ h => h) (Or.inl ⟨by kernel_rfl, ?hy8⟩) (by assumption) ?_
        case hy8 => (intro w' hSw; (try dsimp only at hSw); go_simp; try with_reducible rfl)
        simp only [Act.put, List.setIfInBounds_toArray, List.set_cons_zero, List.set_cons_succ]
        refine lastAny_end (by kernel_rfl) rfl (by kernel_rfl) (by kernel_rfl) (fun K hK => ?_)
        go_simp
        refine hK.out _ _ ?_
        clear hK K
        clear cf4 cn4 cf2 cn2 cf2X cn2X cfE cnE cfX cnX cfEX cnEX cfXE cnXE Hr1 Hr2
        go_wp2_with fail
        go_meet
        exact ⟨A', c', w4, rfl, rfl, HF⟩
      · (rw [if_pos (by kernel_rfl)])
        go_simp
        refine hK.out _ _ ⟨cfEX, cnEX⟩ (fun hHeld => ?_)
        clear hK K
        obtain ⟨v2, w2, hr1, hb2, A', c', w4, hr2, hf⟩ := snocB W3.drew Af cf s.forth s.now HRow.out.drew HNil.out HLen.out
        rw [show W3.drew.heap.size = W3.heap.size from rfl] at hr1 hb2
        (try rw [show W3.drew.heap.size = W3.heap.size from rfl] at hr2)
        have Hr1 := Lib.hid hr1
        have Hr2 := Lib.hid hr2
        have HF := Lib.hid hf.undrew
        have hb2' : Below W3.heap.size W3 w2 := ⟨hb2.os, hb2.tape, hb2.output, hb2.size, hb2.block⟩
        have cf2 : (w2).cell? ⟨w.heap.size, 3, none⟩ = some (.slice Af s.forth.length cf) := (hb2'.cell (p := ⟨w.heap.size, 3, none⟩) (World.block_lt_of_cell? _ _ cfW)).trans cfW
        have cn2 : (w2).cell? ⟨w.heap.size, 2, none⟩ = some (.string s.now) := (hb2'.cell (p := ⟨w.heap.size, 2, none⟩) (World.block_lt_of_cell? _ _ cnW)).trans cnW
        have cf2X : (w2.alloc (.cells #[.string s.now] 9)).cell? ⟨w.heap.size, 3, none⟩ = some (.slice Af s.forth.length cf) := by rw [World.cell?_alloc_some _ _ _ (by rw [cf2]; rfl)]; exact cf2
        have cn2X : (w2.alloc (.cells #[.string s.now] 9)).cell? ⟨w.heap.size, 2, none⟩ = some (.string s.now) := by rw [World.cell?_alloc_some _ _ _ (by rw [cn2]; rfl)]; exact cn2
        have hb4 : Below W3.heap.size W3 w4 := ⟨hf.1.os, hf.1.tape, hf.1.output, hf.1.size, hf.1.block⟩
        have cf4 : (w4).cell? ⟨w.heap.size, 3, none⟩ = some (.slice Af s.forth.length cf) := (hb4.cell (p := ⟨w.heap.size, 3, none⟩) (World.block_lt_of_cell? _ _ cfW)).trans cfW
        have cn4 : (w4).cell? ⟨w.heap.size, 2, none⟩ = some (.string s.now) := (hb4.cell (p := ⟨w.heap.size, 2, none⟩) (World.block_lt_of_cell? _ _ cnW)).trans cnW
        have ff4 : w4.frozen? ⟨w.heap.size, 3, none⟩ = false := (HbW.out.below hb4).free 3
        clear hr1 hr2 hf hb2 hb2' hb4
        refine lastAny_ready (rs := [3]) (by kernel_rfl) (by simp) ?_
        refine AllReadyL.cons (o := ⟨some 78, _, _, _, _, _⟩) rfl (fun K hK => ?_) AllReadyL.nil
        refine step_append_g (by kernel_rfl) (.tmp 75) (.tmp 77) 27 rfl _ _ rfl rfl Hr1.out ?_
        refine hK.out _ _ ⟨cf2, cn2⟩ (fun hHeld => ?_)
        clear hK K
        refine lastAny_ready (rs := [7]) (by kernel_rfl) (by simp) ?_
        refine AllReadyL.cons (o := ⟨some 82, _, _, _, _, _⟩) rfl (fun K hK => ?_) AllReadyL.nil
        refine step_append_g (by kernel_rfl) (.tmp 78) (.tmp 81) 27 rfl _ _ rfl rfl Hr2.out ?_
        refine hK.out _ _ ⟨cf4, cn4⟩ (fun hHeld => ?_)
        clear hK K
        refine lastAny_take (i := 8) (oi := ⟨some 83, _, _, _, _, _⟩) (v := ?_) rfl (by kernel_rfl) (by kernel_rfl) (by kernel_rfl) (by kernel_rfl) (fun _ _ _ h => h) (Or.inl ⟨by kernel_rfl, ?hy8⟩) (by assumption) ?_
        case hy8 => (intro w' hSw; (try dsimp only at hSw); go_simp; try with_reducible rfl)
        simp only [Act.put, List.setIfInBounds_toArray, List.set_cons_zero, List.set_cons_succ]
        refine lastAny_end (by kernel_rfl) rfl (by kernel_rfl) (by kernel_rfl) (fun K hK => ?_)
        go_simp
        refine hK.out _ _ ?_
        clear hK K
        clear cf4 cn4 cf2 cn2 cf2X cn2X cfE cnE cfX cnX cfEX cnEX cfXE cnXE Hr1 Hr2
        go_wp2_with fail
        go_meet
        exact ⟨A', c', w4, rfl, rfl, HF⟩
    · (rw [if_pos (by kernel_rfl)])
      go_simp
      refine hK.out _ _ ⟨cfX, cnX⟩ (fun hHeld => ?_)
      clear hK K
      refine lastAny_ready (rs := [0]) (by kernel_rfl) (by simp) ?_
      refine AllReadyL.cons (o := ⟨some 75, _, _, _, _, _⟩) rfl (fun K hK => ?_) AllReadyL.nil
      (rw [if_pos (by kernel_rfl)])
      go_simp
      refine hK.out _ _ ⟨cfXE, cnXE⟩ (fun hHeld => ?_)
      clear hK K
      obtain ⟨v2, w2, hr1, hb2, A', c', w4, hr2, hf⟩ := snocC W3.drew Af cf s.forth s.now HRow.out.drew HNil.out HLen.out
      rw [show W3.drew.heap.size = W3.heap.size from rfl] at hr1 hb2
      (try rw [show W3.drew.heap.size = W3.heap.size from rfl] at hr2)
      have Hr1 := Lib.hid hr1
      have Hr2 := Lib.hid hr2
      have HF := Lib.hid hf.undrew
      have hb2' : Below W3.heap.size W3 w2 := ⟨hb2.os, hb2.tape, hb2.output, hb2.size, hb2.block⟩
      have cf2 : (w2).cell? ⟨w.heap.size, 3, none⟩ = some (.slice Af s.forth.length cf) := (hb2'.cell (p := ⟨w.heap.size, 3, none⟩) (World.block_lt_of_cell? _ _ cfW)).trans cfW
      have cn2 : (w2).cell? ⟨w.heap.size, 2, none⟩ = some (.string s.now) := (hb2'.cell (p := ⟨w.heap.size, 2, none⟩) (World.block_lt_of_cell? _ _ cnW)).trans cnW
      have cf2X : (w2.alloc (.cells #[.string s.now] 9)).cell? ⟨w.heap.size, 3, none⟩ = some (.slice Af s.forth.length cf) := by rw [World.cell?_alloc_some _ _ _ (by rw [cf2]; rfl)]; exact cf2
      have cn2X : (w2.alloc (.cells #[.string s.now] 9)).cell? ⟨w.heap.size, 2, none⟩ = some (.string s.now) := by rw [World.cell?_alloc_some _ _ _ (by rw [cn2]; rfl)]; exact cn2
      have hb4 : Below W3.heap.size W3 w4 := ⟨hf.1.os, hf.1.tape, hf.1.output, hf.1.size, hf.1.block⟩
      have cf4 : (w4).cell? ⟨w.heap.size, 3, none⟩ = some (.slice Af s.forth.length cf) := (hb4.cell (p := ⟨w.heap.size, 3, none⟩) (World.block_lt_of_cell? _ _ cfW)).trans cfW
      have cn4 : (w4).cell? ⟨w.heap.size, 2, none⟩ = some (.string s.now) := (hb4.cell (p := ⟨w.heap.size, 2, none⟩) (World.block_lt_of_cell? _ _ cnW)).trans cnW
      have ff4 : w4.frozen? ⟨w.heap.size, 3, none⟩ = false := (HbW.out.below hb4).free 3
      clear hr1 hr2 hf hb2 hb2' hb4
      refine lastAny_ready (rs := [3]) (by kernel_rfl) (by simp) ?_
      refine AllReadyL.cons (o := ⟨some 78, _, _, _, _, _⟩) rfl (fun K hK => ?_) AllReadyL.nil
      refine step_append_g (by kernel_rfl) (.tmp 75) (.tmp 77) 27 rfl _ _ rfl rfl Hr1.out ?_
      refine hK.out _ _ ⟨cf2, cn2⟩ (fun hHeld => ?_)
      clear hK K
      refine lastAny_ready (rs := [7]) (by kernel_rfl) (by simp) ?_
      refine AllReadyL.cons (o := ⟨some 82, _, _, _, _, _⟩) rfl (fun K hK => ?_) AllReadyL.nil
      refine step_append_g (by kernel_rfl) (.tmp 78) (.tmp 81) 27 rfl _ _ rfl rfl Hr2.out ?_
      refine hK.out _ _ ⟨cf4, cn4⟩ (fun hHeld => ?_)
      clear hK K
      refine lastAny_take (i := 8) (oi := ⟨some 83, _, _, _, _, _⟩) (v := ?_) rfl (by kernel_rfl) (by kernel_rfl) (by kernel_rfl) (by kernel_rfl) (fun _ _ _ h => h) (Or.inl ⟨by kernel_rfl, ?hy8⟩) (by assumption) ?_
      case hy8 => (intro w' hSw; (try dsimp only at hSw); go_simp; try with_reducible rfl)
      simp only [Act.put, List.setIfInBounds_toArray, List.set_cons_zero, List.set_cons_succ]
      refine lastAny_end (by kernel_rfl) rfl (by kernel_rfl) (by kernel_rfl) (fun K hK => ?_)
      go_simp
      refine hK.out _ _ ?_
      clear hK K
      clear cf4 cn4 cf2 cn2 cf2X cn2X cfE cnE cfX cnX cfEX cnEX cfXE cnXE Hr1 Hr2
      go_wp2_with fail
      go_meet
      exact ⟨A', c', w4, rfl, rfl, HF⟩
  case rest =>
    obtain ⟨A', c', w4, rfl, hwc, HF⟩ := hcut
    obtain ⟨hb4, hrd, hcc, hcm4, hcn, hfr⟩ := HF.out
    rw [HNS.out] at hrd
    have b4 : BxA wc w.heap.size 29 [.int .i64 (s.lim : Int), .slice (some ⟨gx, ox, none⟩) s.back.length cb, .string s.now, .slice A' (s.forth.length + 1) c', .int .i64 s.opn] := by rw [hwc]; exact (Hb0.out.below hb4).set 3 _
    have z4 : BxA wc (w.heap.size + 1 + 1) 29 [.int .i64 0, .slice none 0 0, .string ⟨#[]⟩, .slice none 0 0, .int .i64 0] := by rw [hwc]; exact (Hz0.out.below hb4).other (by omega) _
    have hBw : Below w.heap.size w w4 := HB3.out.trans (hb4.mono HB3.out.size)
    have hB4 : Below w.heap.size w wc := by rw [hwc]; exact hBw.setCell (p := ⟨w.heap.size, 3, none⟩) (Nat.le_refl _) _
    have cy4 : wc.cell? ⟨gx, ox + (s.back.length - 1), none⟩ = some (.string y) := (hB4.cell (p := ⟨gx, ox + (s.back.length - 1), none⟩) hgx).trans cy
    have hO4 : Only (fun i => i = w.heap.size) w4 wc := by rw [hwc]; exact (Only.refl (fun i => i = w.heap.size) w4).set (p := ⟨w.heap.size, 3, none⟩) (.inl rfl) _
    have c40 := b4.c 0 rfl
    have c41 := b4.c 1 rfl
    have c42 := b4.c 2 rfl
    have c43 := b4.c 3 rfl
    have c44 := b4.c 4 rfl
    have f40 := b4.free 0
    have f41 := b4.free 1
    have f42 := b4.free 2
    have f43 := b4.free 3
    have f44 := b4.free 4
    have Hb4 := Lib.hid b4
    have Hz4 := Lib.hid z4
    have HB4 := Lib.hid hB4
    have HO4 := Lib.hid hO4
    clear b4 z4 hBw hB4 hwc hO4 hb4
    obtain ⟨Wn, hWn⟩ : ∃ Wn, (((wc.setCell ⟨w.heap.size, 2, none⟩ (.string y)).setCell ⟨w.heap.size, 1, none⟩ (.slice (some ⟨gx, ox, none⟩) (s.back.length - 1) cb)).setCell ⟨w.heap.size, 4, none⟩ (.int .i64 0)) = Wn := ⟨_, rfl⟩
    have HW : Hid (Below w.heap.size w Wn) := Lib.hid (by rw [← hWn]; exact (((HB4.out).setCell (p := ⟨w.heap.size, 2, none⟩) (Nat.le_refl _) _).setCell (p := ⟨w.heap.size, 1, none⟩) (Nat.le_refl _) _).setCell (p := ⟨w.heap.size, 4, none⟩) (Nat.le_refl _) _)
    have hON : Only (fun i => i = w.heap.size) w4 Wn := by rw [← hWn]; exact (((HO4.out).set (p := ⟨w.heap.size, 2, none⟩) (.inl rfl) _).set (p := ⟨w.heap.size, 1, none⟩) (.inl rfl) _).set (p := ⟨w.heap.size, 4, none⟩) (.inl rfl) _
    have bN : BxA Wn w.heap.size 29 [.int .i64 (s.lim : Int), .slice (some ⟨gx, ox, none⟩) (s.back.length - 1) cb, .string y, .slice A' (s.forth.length + 1) c', .int .i64 0] := by rw [← hWn]; exact (((Hb4.out.set 2 _).set 1 _).set 4 _)
    have zN : BxA Wn (w.heap.size + 1 + 1) 29 [.int .i64 0, .slice none 0 0, .string ⟨#[]⟩, .slice none 0 0, .int .i64 0] := by rw [← hWn]; exact (((Hz4.out.other (by omega) _).other (by omega) _).other (by omega) _)
    have n0 := bN.c 0 rfl
    have n1 := bN.c 1 rfl
    have n2 := bN.c 2 rfl
    have n3 := bN.c 3 rfl
    have n4 := bN.c 4 rfl
    have a0 := zN.c 0 rfl
    have a1 := zN.c 1 rfl
    have a2 := zN.c 2 rfl
    have a3 := zN.c 3 rfl
    have a4 := zN.c 4 rfl
    have b0 := zN.free 0
    have b1 := zN.free 1
    have b2 := zN.free 2
    have b3 := zN.free 3
    have b4 := zN.free 4
    have hsa : W3.heap.size = w.heap.size + 3 := hsW3.out
    have fin := fin6 (w := w) (M := w.heap.size + 1 + 1) (Ab := (some ⟨gx, ox, none⟩)) (Af := Af) (Ab' := (some ⟨gx, ox, none⟩)) (cb' := cb) (Af' := A') (cf' := c') (s' := (⟨s.lim, b, y, ns, 0⟩ : LS ByteArray)) true HW.out (by omega) zN (fun W' ho => ⟨((by rw [HBT.out]; exact Hh.out.rb.take _ : RdV Value.string w (some ⟨gx, ox, none⟩) b)).below (old6 HW.out (by omega) ho), (by show b.length ≤ cb; have := HBL.out; omega), hcm, fun e => (by cases e), (hrd.keep hON (fun a e => by have := hfr a e; omega)).keep ho (fun a e => by have := hfr a e; omega), (by show ns.length ≤ c'; have := HNL.out; omega), hcm4, hcn⟩) (NearL.refl _ _ _) (fun a e => .inr (by have := hfr a e; have := hON.size; omega))
    dsimp only [docL] at fin
    rw [HNL.out, HBL.out] at fin
    have Fin := Lib.hid fin
    clear fin bN zN hON hsa hrd hfr HF
    go_wp2
    refine bodyPost_ret (results_bxA2 rfl _ _ (w.heap.size + 1 + 1) _ _ _ _ _ _ 29 rfl rfl Fin.out.1 Try.underlying29 (sizeState6 _)) rfl ?_
    exact Fin.out.2
set_option maxHeartbeats 4000000 in
theorem udo_redo (Ab : Option Addr) (cb : Nat) (Af : Option Addr) (cf : Nat) (s : LS ByteArray) (t : ByteArray) (g : Int) (w : World) (h : DocL w Ab cb Af cf s) (hok : s.Ok) (b : List ByteArray) (y : ByteArray) (hb : s.forth = b ++ [y]) :
    Calls Try.prog 13 #[docL Ab cb Af cf s, opV ⟨4, t, g⟩] w (DidU w Ab Af (doU s ⟨4, t, g⟩) (didU s ⟨4, t, g⟩)) := by
  obtain ⟨W3, hW3, hB3, hs3, b0, o0, z0⟩ := boxes6 Ab cb Af cf s 4 t g w
  have w0 := b0.c 0 rfl
  have w1 := b0.c 1 rfl
  have w2 := b0.c 2 rfl
  have w3 := b0.c 3 rfl
  have w4 := b0.c 4 rfl
  have v0 := b0.free 0
  have v1 := b0.free 1
  have v2 := b0.free 2
  have v3 := b0.free 3
  have v4 := b0.free 4
  have o0' := o0.c 0 rfl
  have o1' := o0.c 1 rfl
  have o2' := o0.c 2 rfl
  have g0 := z0.c 0 rfl
  have g1 := z0.c 1 rfl
  have g2 := z0.c 2 rfl
  have g3 := z0.c 3 rfl
  have g4 := z0.c 4 rfl
  have k0 := z0.free 0
  have k1 := z0.free 1
  have k2 := z0.free 2
  have k3 := z0.free 3
  have k4 := z0.free 4
  have hln := hok.len
  have hle := hok.le
  have Hb0 := Lib.hid b0
  have Ho0 := Lib.hid o0
  have Hz0 := Lib.hid z0
  have Hh := Lib.hid h
  have Hok := Lib.hid hok
  have HB3 := Lib.hid hB3
  have Hs3 := Lib.hid hs3
  clear b0 o0 z0 h hok hB3 hs3
  obtain ⟨ns, hns0⟩ : ∃ ns, s.back ++ [s.now] = ns := ⟨_, rfl⟩
  have hd0 : doU s ⟨4, t, g⟩ = (⟨s.lim, ns, y, b, 0⟩ : LS ByteArray) := by rw [show doU s ⟨4, t, g⟩ = s.redo from rfl, LS.redo_some hb, ← hns0]
  rw [hd0, show didU s ⟨4, t, g⟩ = true from by show decide (s.forth ≠ []) = true; rw [hb]; simp]
  have hnl : ns.length = s.back.length + 1 := by rw [← hns0]; simp
  have hbl : b.length = s.forth.length - 1 := by rw [hb]; simp
  have hol : 0 < s.forth.length := by rw [hb]; simp
  have hbt : b = s.forth.take (s.forth.length - 1) := by rw [hb]; simp
  have hy : s.forth[s.forth.length - 1]? = some y := by rw [hb]; simp
  have HNS := Lib.hid hns0
  have HNL := Lib.hid hnl
  have HBL := Lib.hid hbl
  have HBT := Lib.hid hbt
  clear hd0 hns0 hb hnl hbl hbt
  obtain ⟨gx, ox, rfl, hgx, hcx⟩ := Hh.out.rf.at_ hol
  have cy := hcx _ _ hy
  clear hcx hy
  have hn0 : ((s.forth.length : Int) == 0) = false := beq_eq_false_iff_ne.2 (by omega)
  have hns1 : IntKind.i64.wrap ((s.forth.length : Int) - 1) = ((s.forth.length - 1 : Nat) : Int) := by rw [IntWalk.i64_in _ (by omega)]; omega
  have hi1 : s.forth.length - 1 < s.forth.length := by omega
  have hi2 : ((s.forth.length - 1 : Nat) : Int) < (s.forth.length : Int) := by omega
  have hcap : s.forth.length ≤ cf := Hh.out.capf
  have hcm : cf ≤ maxLen := Hh.out.maxf
  have hcap1 : s.forth.length - 1 ≤ cf := by omega
  have cfW := w1
  have cnW := w2
  have HbW := Hb0
  have hsW3 := Hs3
  have HRow := Lib.hid (Hh.out.rb.below HB3.out)
  have HNil := Lib.hid Hh.out.nilb
  have HLen : Hid (s.back.length ≤ 100000) := Lib.hid (by omega)
  unfold docL opV
  go_enter Try.func13, Try.ntmps13
  go_upto_region 32 with fail
  go_cut [114] from 107 (fun s36 wc => ∃ A' c' w4, s36 = .slice A' (s.back.length + 1) c' ∧ wc = w4.setCell ⟨w.heap.size, 1, none⟩ (.slice A' (s.back.length + 1) c') ∧ Hid (SnocFin W3 s.back s.now A' c' w4))
  case first =>
    have cfE : (W3.alloc (.cells #[] 9)).cell? ⟨w.heap.size, 1, none⟩ = some (.slice Ab s.back.length cb) := by rw [World.cell?_alloc_some _ _ _ (by rw [cfW]; rfl)]; exact cfW
    have cnE : (W3.alloc (.cells #[] 9)).cell? ⟨w.heap.size, 2, none⟩ = some (.string s.now) := by rw [World.cell?_alloc_some _ _ _ (by rw [cnW]; rfl)]; exact cnW
    have cfX : (W3.alloc (.cells #[.string s.now] 9)).cell? ⟨w.heap.size, 1, none⟩ = some (.slice Ab s.back.length cb) := by rw [World.cell?_alloc_some _ _ _ (by rw [cfW]; rfl)]; exact cfW
    have cnX : (W3.alloc (.cells #[.string s.now] 9)).cell? ⟨w.heap.size, 2, none⟩ = some (.string s.now) := by rw [World.cell?_alloc_some _ _ _ (by rw [cnW]; rfl)]; exact cnW
    have cfEX : ((W3.alloc (.cells #[] 9)).alloc (.cells #[.string s.now] 9)).cell? ⟨w.heap.size, 1, none⟩ = some (.slice Ab s.back.length cb) := by rw [World.cell?_alloc_some _ _ _ (by rw [cfE]; rfl)]; exact cfE
    have cnEX : ((W3.alloc (.cells #[] 9)).alloc (.cells #[.string s.now] 9)).cell? ⟨w.heap.size, 2, none⟩ = some (.string s.now) := by rw [World.cell?_alloc_some _ _ _ (by rw [cnE]; rfl)]; exact cnE
    have cfXE : ((W3.alloc (.cells #[.string s.now] 9)).alloc (.cells #[] 9)).cell? ⟨w.heap.size, 1, none⟩ = some (.slice Ab s.back.length cb) := by rw [World.cell?_alloc_some _ _ _ (by rw [cfX]; rfl)]; exact cfX
    have cnXE : ((W3.alloc (.cells #[.string s.now] 9)).alloc (.cells #[] 9)).cell? ⟨w.heap.size, 2, none⟩ = some (.string s.now) := by rw [World.cell?_alloc_some _ _ _ (by rw [cnX]; rfl)]; exact cnX
    refine wp_region_last (S := (fun w' => w'.cell? ⟨w.heap.size, 1, none⟩ = some (.slice Ab s.back.length cb) ∧ w'.cell? ⟨w.heap.size, 2, none⟩ = some (.string s.now))) 9 (by kernel_rfl) ⟨cfW, cnW⟩ (fun hHeld => ?_)
    refine lastAny_take (i := 1) (oi := ⟨some 108, _, _, _, _, _⟩) (v := ?_) rfl (by kernel_rfl) (by kernel_rfl) (by kernel_rfl) (by kernel_rfl) (fun _ _ _ h => h) (Or.inl ⟨by kernel_rfl, ?hy1⟩) (by assumption) ?_
    case hy1 => (intro w' hSw; (try dsimp only at hSw); go_simp; try with_reducible rfl)
    simp only [Act.put, List.setIfInBounds_toArray, List.set_cons_zero, List.set_cons_succ]
    refine lastAny_take (i := 2) (oi := ⟨some 109, _, _, _, _, _⟩) (v := ?_) rfl (by kernel_rfl) (by kernel_rfl) (by kernel_rfl) (by kernel_rfl) (fun _ _ _ h => h) (Or.inl ⟨by kernel_rfl, ?hy2⟩) (by assumption) ?_
    case hy2 => (intro w' hSw; (try dsimp only at hSw); go_simp; try with_reducible rfl)
    simp only [Act.put, List.setIfInBounds_toArray, List.set_cons_zero, List.set_cons_succ]
    refine lastAny_take (i := 4) (oi := ⟨some 111, _, _, _, _, _⟩) (v := ?_) rfl (by kernel_rfl) (by kernel_rfl) (by kernel_rfl) (by kernel_rfl) (fun _ _ _ h => h) (Or.inl ⟨by kernel_rfl, ?hy4⟩) (by assumption) ?_
    case hy4 => (intro w' hSw; (try dsimp only at hSw); go_simp; try with_reducible rfl)
    simp only [Act.put, List.setIfInBounds_toArray, List.set_cons_zero, List.set_cons_succ]
    refine lastAny_take (i := 5) (oi := ⟨some 112, _, _, _, _, _⟩) (v := ?_) rfl (by kernel_rfl) (by kernel_rfl) (by kernel_rfl) (by kernel_rfl) (fun _ _ _ h => h) (Or.inl ⟨by kernel_rfl, ?hy5⟩) (by assumption) ?_
    case hy5 => (intro w' hSw; (try dsimp only at hSw); go_simp; try with_reducible rfl)
    simp only [Act.put, List.setIfInBounds_toArray, List.set_cons_zero, List.set_cons_succ]
    refine lastAny_ready (rs := [0, 6]) (by kernel_rfl) (by simp) ?_
    refine AllReadyL.cons (o := ⟨some 107, _, _, _, _, _⟩) rfl (fun K hK => ?_) (AllReadyL.cons (o := ⟨some 113, _, _, _, _, _⟩) rfl (fun K hK => ?_) AllReadyL.nil)
    · (rw [if_pos (by kernel_rfl)])
      go_simp
      refine hK.out _ _ ⟨cfE, cnE⟩ (fun hHeld => ?_)
      clear hK K
      refine lastAny_ready (rs := [3, 6]) (by kernel_rfl) (by simp) ?_
      refine AllReadyL.cons (o := ⟨some 110, _, _, _, _, _⟩) rfl (fun K hK => ?_) (AllReadyL.cons (o := ⟨some 113, _, _, _, _, _⟩) rfl (fun K hK => ?_) AllReadyL.nil)
      · obtain ⟨v2, w2, hr1, hb2, A', c', w4, hr2, hf⟩ := snocA W3.drew Ab cb s.back s.now HRow.out.drew HNil.out HLen.out
        rw [show W3.drew.heap.size = W3.heap.size from rfl] at hr1 hb2
        (try rw [show W3.drew.heap.size = W3.heap.size from rfl] at hr2)
        have Hr1 := Lib.hid hr1
        have Hr2 := Lib.hid hr2
        have HF := Lib.hid hf.undrew
        have hb2' : Below W3.heap.size W3 w2 := ⟨hb2.os, hb2.tape, hb2.output, hb2.size, hb2.block⟩
        have cf2 : (w2).cell? ⟨w.heap.size, 1, none⟩ = some (.slice Ab s.back.length cb) := (hb2'.cell (p := ⟨w.heap.size, 1, none⟩) (World.block_lt_of_cell? _ _ cfW)).trans cfW
        have cn2 : (w2).cell? ⟨w.heap.size, 2, none⟩ = some (.string s.now) := (hb2'.cell (p := ⟨w.heap.size, 2, none⟩) (World.block_lt_of_cell? _ _ cnW)).trans cnW
        have cf2X : (w2.alloc (.cells #[.string s.now] 9)).cell? ⟨w.heap.size, 1, none⟩ = some (.slice Ab s.back.length cb) := by rw [World.cell?_alloc_some _ _ _ (by rw [cf2]; rfl)]; exact cf2
        have cn2X : (w2.alloc (.cells #[.string s.now] 9)).cell? ⟨w.heap.size, 2, none⟩ = some (.string s.now) := by rw [World.cell?_alloc_some _ _ _ (by rw [cn2]; rfl)]; exact cn2
        have hb4 : Below W3.heap.size W3 w4 := ⟨hf.1.os, hf.1.tape, hf.1.output, hf.1.size, hf.1.block⟩
        have cf4 : (w4).cell? ⟨w.heap.size, 1, none⟩ = some (.slice Ab s.back.length cb) := (hb4.cell (p := ⟨w.heap.size, 1, none⟩) (World.block_lt_of_cell? _ _ cfW)).trans cfW
        have cn4 : (w4).cell? ⟨w.heap.size, 2, none⟩ = some (.string s.now) := (hb4.cell (p := ⟨w.heap.size, 2, none⟩) (World.block_lt_of_cell? _ _ cnW)).trans cnW
        have ff4 : w4.frozen? ⟨w.heap.size, 1, none⟩ = false := (HbW.out.below hb4).free 1
        clear hr1 hr2 hf hb2 hb2' hb4
        refine step_append_g (by kernel_rfl) (.tmp 107) (.tmp 109) 27 rfl _ _ rfl rfl Hr1.out ?_
        refine hK.out _ _ ⟨cf2, cn2⟩ (fun hHeld => ?_)
        clear hK K
        refine lastAny_ready (rs := [6]) (by kernel_rfl) (by simp) ?_
        refine AllReadyL.cons (o := ⟨some 113, _, _, _, _, _⟩) rfl (fun K hK => ?_) AllReadyL.nil
        (rw [if_pos (by kernel_rfl)])
        go_simp
        refine hK.out _ _ ⟨cf2X, cn2X⟩ (fun hHeld => ?_)
        clear hK K
        refine lastAny_ready (rs := [7]) (by kernel_rfl) (by simp) ?_
        refine AllReadyL.cons (o := ⟨some 114, _, _, _, _, _⟩) rfl (fun K hK => ?_) AllReadyL.nil
        refine step_append_g (by kernel_rfl) (.tmp 110) (.tmp 113) 27 rfl _ _ rfl rfl Hr2.out ?_
        refine hK.out _ _ ⟨cf4, cn4⟩ (fun hHeld => ?_)
        clear hK K
        refine lastAny_take (i := 8) (oi := ⟨some 115, _, _, _, _, _⟩) (v := ?_) rfl (by kernel_rfl) (by kernel_rfl) (by kernel_rfl) (by kernel_rfl) (fun _ _ _ h => h) (Or.inl ⟨by kernel_rfl, ?hy8⟩) (by assumption) ?_
        case hy8 => (intro w' hSw; (try dsimp only at hSw); go_simp; try with_reducible rfl)
        simp only [Act.put, List.setIfInBounds_toArray, List.set_cons_zero, List.set_cons_succ]
        refine lastAny_end (by kernel_rfl) rfl (by kernel_rfl) (by kernel_rfl) (fun K hK => ?_)
        go_simp
        refine hK.out _ _ ?_
        clear hK K
        clear cf4 cn4 cf2 cn2 cf2X cn2X cfE cnE cfX cnX cfEX cnEX cfXE cnXE Hr1 Hr2
        go_wp2_with fail
        go_meet
        exact ⟨A', c', w4, rfl, rfl, HF⟩
      · (rw [if_pos (by kernel_rfl)])
        go_simp
        refine hK.out _ _ ⟨cfEX, cnEX⟩ (fun hHeld => ?_)
        clear hK K
        obtain ⟨v2, w2, hr1, hb2, A', c', w4, hr2, hf⟩ := snocB W3.drew Ab cb s.back s.now HRow.out.drew HNil.out HLen.out
        rw [show W3.drew.heap.size = W3.heap.size from rfl] at hr1 hb2
        (try rw [show W3.drew.heap.size = W3.heap.size from rfl] at hr2)
        have Hr1 := Lib.hid hr1
        have Hr2 := Lib.hid hr2
        have HF := Lib.hid hf.undrew
        have hb2' : Below W3.heap.size W3 w2 := ⟨hb2.os, hb2.tape, hb2.output, hb2.size, hb2.block⟩
        have cf2 : (w2).cell? ⟨w.heap.size, 1, none⟩ = some (.slice Ab s.back.length cb) := (hb2'.cell (p := ⟨w.heap.size, 1, none⟩) (World.block_lt_of_cell? _ _ cfW)).trans cfW
        have cn2 : (w2).cell? ⟨w.heap.size, 2, none⟩ = some (.string s.now) := (hb2'.cell (p := ⟨w.heap.size, 2, none⟩) (World.block_lt_of_cell? _ _ cnW)).trans cnW
        have cf2X : (w2.alloc (.cells #[.string s.now] 9)).cell? ⟨w.heap.size, 1, none⟩ = some (.slice Ab s.back.length cb) := by rw [World.cell?_alloc_some _ _ _ (by rw [cf2]; rfl)]; exact cf2
        have cn2X : (w2.alloc (.cells #[.string s.now] 9)).cell? ⟨w.heap.size, 2, none⟩ = some (.string s.now) := by rw [World.cell?_alloc_some _ _ _ (by rw [cn2]; rfl)]; exact cn2
        have hb4 : Below W3.heap.size W3 w4 := ⟨hf.1.os, hf.1.tape, hf.1.output, hf.1.size, hf.1.block⟩
        have cf4 : (w4).cell? ⟨w.heap.size, 1, none⟩ = some (.slice Ab s.back.length cb) := (hb4.cell (p := ⟨w.heap.size, 1, none⟩) (World.block_lt_of_cell? _ _ cfW)).trans cfW
        have cn4 : (w4).cell? ⟨w.heap.size, 2, none⟩ = some (.string s.now) := (hb4.cell (p := ⟨w.heap.size, 2, none⟩) (World.block_lt_of_cell? _ _ cnW)).trans cnW
        have ff4 : w4.frozen? ⟨w.heap.size, 1, none⟩ = false := (HbW.out.below hb4).free 1
        clear hr1 hr2 hf hb2 hb2' hb4
        refine lastAny_ready (rs := [3]) (by kernel_rfl) (by simp) ?_
        refine AllReadyL.cons (o := ⟨some 110, _, _, _, _, _⟩) rfl (fun K hK => ?_) AllReadyL.nil
        refine step_append_g (by kernel_rfl) (.tmp 107) (.tmp 109) 27 rfl _ _ rfl rfl Hr1.out ?_
        refine hK.out _ _ ⟨cf2, cn2⟩ (fun hHeld => ?_)
        clear hK K
        refine lastAny_ready (rs := [7]) (by kernel_rfl) (by simp) ?_
        refine AllReadyL.cons (o := ⟨some 114, _, _, _, _, _⟩) rfl (fun K hK => ?_) AllReadyL.nil
        refine step_append_g (by kernel_rfl) (.tmp 110) (.tmp 113) 27 rfl _ _ rfl rfl Hr2.out ?_
        refine hK.out _ _ ⟨cf4, cn4⟩ (fun hHeld => ?_)
        clear hK K
        refine lastAny_take (i := 8) (oi := ⟨some 115, _, _, _, _, _⟩) (v := ?_) rfl (by kernel_rfl) (by kernel_rfl) (by kernel_rfl) (by kernel_rfl) (fun _ _ _ h => h) (Or.inl ⟨by kernel_rfl, ?hy8⟩) (by assumption) ?_
        case hy8 => (intro w' hSw; (try dsimp only at hSw); go_simp; try with_reducible rfl)
        simp only [Act.put, List.setIfInBounds_toArray, List.set_cons_zero, List.set_cons_succ]
        refine lastAny_end (by kernel_rfl) rfl (by kernel_rfl) (by kernel_rfl) (fun K hK => ?_)
        go_simp
        refine hK.out _ _ ?_
        clear hK K
        clear cf4 cn4 cf2 cn2 cf2X cn2X cfE cnE cfX cnX cfEX cnEX cfXE cnXE Hr1 Hr2
        go_wp2_with fail
        go_meet
        exact ⟨A', c', w4, rfl, rfl, HF⟩
    · (rw [if_pos (by kernel_rfl)])
      go_simp
      refine hK.out _ _ ⟨cfX, cnX⟩ (fun hHeld => ?_)
      clear hK K
      refine lastAny_ready (rs := [0]) (by kernel_rfl) (by simp) ?_
      refine AllReadyL.cons (o := ⟨some 107, _, _, _, _, _⟩) rfl (fun K hK => ?_) AllReadyL.nil
      (rw [if_pos (by kernel_rfl)])
      go_simp
      refine hK.out _ _ ⟨cfXE, cnXE⟩ (fun hHeld => ?_)
      clear hK K
      obtain ⟨v2, w2, hr1, hb2, A', c', w4, hr2, hf⟩ := snocC W3.drew Ab cb s.back s.now HRow.out.drew HNil.out HLen.out
      rw [show W3.drew.heap.size = W3.heap.size from rfl] at hr1 hb2
      (try rw [show W3.drew.heap.size = W3.heap.size from rfl] at hr2)
      have Hr1 := Lib.hid hr1
      have Hr2 := Lib.hid hr2
      have HF := Lib.hid hf.undrew
      have hb2' : Below W3.heap.size W3 w2 := ⟨hb2.os, hb2.tape, hb2.output, hb2.size, hb2.block⟩
      have cf2 : (w2).cell? ⟨w.heap.size, 1, none⟩ = some (.slice Ab s.back.length cb) := (hb2'.cell (p := ⟨w.heap.size, 1, none⟩) (World.block_lt_of_cell? _ _ cfW)).trans cfW
      have cn2 : (w2).cell? ⟨w.heap.size, 2, none⟩ = some (.string s.now) := (hb2'.cell (p := ⟨w.heap.size, 2, none⟩) (World.block_lt_of_cell? _ _ cnW)).trans cnW
      have cf2X : (w2.alloc (.cells #[.string s.now] 9)).cell? ⟨w.heap.size, 1, none⟩ = some (.slice Ab s.back.length cb) := by rw [World.cell?_alloc_some _ _ _ (by rw [cf2]; rfl)]; exact cf2
      have cn2X : (w2.alloc (.cells #[.string s.now] 9)).cell? ⟨w.heap.size, 2, none⟩ = some (.string s.now) := by rw [World.cell?_alloc_some _ _ _ (by rw [cn2]; rfl)]; exact cn2
      have hb4 : Below W3.heap.size W3 w4 := ⟨hf.1.os, hf.1.tape, hf.1.output, hf.1.size, hf.1.block⟩
      have cf4 : (w4).cell? ⟨w.heap.size, 1, none⟩ = some (.slice Ab s.back.length cb) := (hb4.cell (p := ⟨w.heap.size, 1, none⟩) (World.block_lt_of_cell? _ _ cfW)).trans cfW
      have cn4 : (w4).cell? ⟨w.heap.size, 2, none⟩ = some (.string s.now) := (hb4.cell (p := ⟨w.heap.size, 2, none⟩) (World.block_lt_of_cell? _ _ cnW)).trans cnW
      have ff4 : w4.frozen? ⟨w.heap.size, 1, none⟩ = false := (HbW.out.below hb4).free 1
      clear hr1 hr2 hf hb2 hb2' hb4
      refine lastAny_ready (rs := [3]) (by kernel_rfl) (by simp) ?_
      refine AllReadyL.cons (o := ⟨some 110, _, _, _, _, _⟩) rfl (fun K hK => ?_) AllReadyL.nil
      refine step_append_g (by kernel_rfl) (.tmp 107) (.tmp 109) 27 rfl _ _ rfl rfl Hr1.out ?_
      refine hK.out _ _ ⟨cf2, cn2⟩ (fun hHeld => ?_)
      clear hK K
      refine lastAny_ready (rs := [7]) (by kernel_rfl) (by simp) ?_
      refine AllReadyL.cons (o := ⟨some 114, _, _, _, _, _⟩) rfl (fun K hK => ?_) AllReadyL.nil
      refine step_append_g (by kernel_rfl) (.tmp 110) (.tmp 113) 27 rfl _ _ rfl rfl Hr2.out ?_
      refine hK.out _ _ ⟨cf4, cn4⟩ (fun hHeld => ?_)
      clear hK K
      refine lastAny_take (i := 8) (oi := ⟨some 115, _, _, _, _, _⟩) (v := ?_) rfl (by kernel_rfl) (by kernel_rfl) (by kernel_rfl) (by kernel_rfl) (fun _ _ _ h => h) (Or.inl ⟨by kernel_rfl, ?hy8⟩) (by assumption) ?_
      case hy8 => (intro w' hSw; (try dsimp only at hSw); go_simp; try with_reducible rfl)
      simp only [Act.put, List.setIfInBounds_toArray, List.set_cons_zero, List.set_cons_succ]
      refine lastAny_end (by kernel_rfl) rfl (by kernel_rfl) (by kernel_rfl) (fun K hK => ?_)
      go_simp
      refine hK.out _ _ ?_
      clear hK K
      clear cf4 cn4 cf2 cn2 cf2X cn2X cfE cnE cfX cnX cfEX cnEX cfXE cnXE Hr1 Hr2
      go_wp2_with fail
      go_meet
      exact ⟨A', c', w4, rfl, rfl, HF⟩
  case rest =>
    obtain ⟨A', c', w4, rfl, hwc, HF⟩ := hcut
    obtain ⟨hb4, hrd, hcc, hcm4, hcn, hfr⟩ := HF.out
    rw [HNS.out] at hrd
    have b4 : BxA wc w.heap.size 29 [.int .i64 (s.lim : Int), .slice A' (s.back.length + 1) c', .string s.now, .slice (some ⟨gx, ox, none⟩) s.forth.length cf, .int .i64 s.opn] := by rw [hwc]; exact (Hb0.out.below hb4).set 1 _
    have z4 : BxA wc (w.heap.size + 1 + 1) 29 [.int .i64 0, .slice none 0 0, .string ⟨#[]⟩, .slice none 0 0, .int .i64 0] := by rw [hwc]; exact (Hz0.out.below hb4).other (by omega) _
    have hBw : Below w.heap.size w w4 := HB3.out.trans (hb4.mono HB3.out.size)
    have hB4 : Below w.heap.size w wc := by rw [hwc]; exact hBw.setCell (p := ⟨w.heap.size, 1, none⟩) (Nat.le_refl _) _
    have cy4 : wc.cell? ⟨gx, ox + (s.forth.length - 1), none⟩ = some (.string y) := (hB4.cell (p := ⟨gx, ox + (s.forth.length - 1), none⟩) hgx).trans cy
    have hO4 : Only (fun i => i = w.heap.size) w4 wc := by rw [hwc]; exact (Only.refl (fun i => i = w.heap.size) w4).set (p := ⟨w.heap.size, 1, none⟩) (.inl rfl) _
    have c40 := b4.c 0 rfl
    have c41 := b4.c 1 rfl
    have c42 := b4.c 2 rfl
    have c43 := b4.c 3 rfl
    have c44 := b4.c 4 rfl
    have f40 := b4.free 0
    have f41 := b4.free 1
    have f42 := b4.free 2
    have f43 := b4.free 3
    have f44 := b4.free 4
    have Hb4 := Lib.hid b4
    have Hz4 := Lib.hid z4
    have HB4 := Lib.hid hB4
    have HO4 := Lib.hid hO4
    clear b4 z4 hBw hB4 hwc hO4 hb4
    obtain ⟨Wn, hWn⟩ : ∃ Wn, (((wc.setCell ⟨w.heap.size, 2, none⟩ (.string y)).setCell ⟨w.heap.size, 3, none⟩ (.slice (some ⟨gx, ox, none⟩) (s.forth.length - 1) cf)).setCell ⟨w.heap.size, 4, none⟩ (.int .i64 0)) = Wn := ⟨_, rfl⟩
    have HW : Hid (Below w.heap.size w Wn) := Lib.hid (by rw [← hWn]; exact (((HB4.out).setCell (p := ⟨w.heap.size, 2, none⟩) (Nat.le_refl _) _).setCell (p := ⟨w.heap.size, 3, none⟩) (Nat.le_refl _) _).setCell (p := ⟨w.heap.size, 4, none⟩) (Nat.le_refl _) _)
    have hON : Only (fun i => i = w.heap.size) w4 Wn := by rw [← hWn]; exact (((HO4.out).set (p := ⟨w.heap.size, 2, none⟩) (.inl rfl) _).set (p := ⟨w.heap.size, 3, none⟩) (.inl rfl) _).set (p := ⟨w.heap.size, 4, none⟩) (.inl rfl) _
    have bN : BxA Wn w.heap.size 29 [.int .i64 (s.lim : Int), .slice A' (s.back.length + 1) c', .string y, .slice (some ⟨gx, ox, none⟩) (s.forth.length - 1) cf, .int .i64 0] := by rw [← hWn]; exact (((Hb4.out.set 2 _).set 3 _).set 4 _)
    have zN : BxA Wn (w.heap.size + 1 + 1) 29 [.int .i64 0, .slice none 0 0, .string ⟨#[]⟩, .slice none 0 0, .int .i64 0] := by rw [← hWn]; exact (((Hz4.out.other (by omega) _).other (by omega) _).other (by omega) _)
    have n0 := bN.c 0 rfl
    have n1 := bN.c 1 rfl
    have n2 := bN.c 2 rfl
    have n3 := bN.c 3 rfl
    have n4 := bN.c 4 rfl
    have a0 := zN.c 0 rfl
    have a1 := zN.c 1 rfl
    have a2 := zN.c 2 rfl
    have a3 := zN.c 3 rfl
    have a4 := zN.c 4 rfl
    have b0 := zN.free 0
    have b1 := zN.free 1
    have b2 := zN.free 2
    have b3 := zN.free 3
    have b4 := zN.free 4
    have hsa : W3.heap.size = w.heap.size + 3 := hsW3.out
    have fin := fin6 (w := w) (M := w.heap.size + 1 + 1) (Ab := Ab) (Af := (some ⟨gx, ox, none⟩)) (Ab' := A') (cb' := c') (Af' := (some ⟨gx, ox, none⟩)) (cf' := cf) (s' := (⟨s.lim, ns, y, b, 0⟩ : LS ByteArray)) true HW.out (by omega) zN (fun W' ho => ⟨(hrd.keep hON (fun a e => by have := hfr a e; omega)).keep ho (fun a e => by have := hfr a e; omega), (by show ns.length ≤ c'; have := HNL.out; omega), hcm4, hcn, ((by rw [HBT.out]; exact Hh.out.rf.take _ : RdV Value.string w (some ⟨gx, ox, none⟩) b)).below (old6 HW.out (by omega) ho), (by show b.length ≤ cf; have := HBL.out; omega), hcm, fun e => (by cases e)⟩) (fun a e => .inr (by have := hfr a e; have := hON.size; omega)) (NearL.refl _ _ _)
    dsimp only [docL] at fin
    rw [HNL.out, HBL.out] at fin
    have Fin := Lib.hid fin
    clear fin bN zN hON hsa hrd hfr HF
    go_wp2
    refine bodyPost_ret (results_bxA2 rfl _ _ (w.heap.size + 1 + 1) _ _ _ _ _ _ 29 rfl rfl Fin.out.1 Try.underlying29 (sizeState6 _)) rfl ?_
    exact Fin.out.2
end Go.Proofs.Ytgcafmofpflidaa
