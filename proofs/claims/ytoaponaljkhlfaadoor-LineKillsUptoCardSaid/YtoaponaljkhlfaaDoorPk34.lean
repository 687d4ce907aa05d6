/-
  Layer 7 and what it stands on, part 34 (LnO LnP LnQ).
-/
import Derived.Test.YtoaponaljkhlfaaDoorPk31
import Derived.Test.YtoaponaljkhlfaaDoorPk33
namespace Go.Proofs.YtoaponaljkhlfaaDoor
section
open Go Go.RowKit
set_option maxRecDepth 100000
section
variable (w : World) (O F : Nat → Prop) (b : Nat) (s : LN)
theorem getD_sm {r : RS ByteArray} {B : Nat} (h : SmR r B) (i : Nat) : (r.l.getD i ⟨#[]⟩).size ≤ B := by
  rw [List.getD_eq_getElem?_getD]
  cases hi : r.l[i]? with
  | none => exact Nat.zero_le _
  | some x => exact h x (List.mem_of_getElem? hi)
set_option maxHeartbeats 4000000 in
theorem act_pop (k0 : Int) (t : ByteArray) (h : LineL w O F b s) (hsp : Spans w) (hB : SmR s.ring 1000000) :
    Calls Tryd.prog 56 #[.pointer (some ⟨b, 0, none⟩), .agg #[.int .i64 k0, .string t]] w fun e w' => e = .returned (dV s.pop.last) ∧ ToLn w O F w' b ⟨s.pop.log, s.pop.ring, s.last⟩ := by
  obtain ⟨W2, hW2, hB2, hs2, hk2, hd2⟩ := boxesA w k0 t
  have HB2 := Lib.hid hB2
  have HN2 := Lib.hid hs2
  have HD2 := Lib.hid hd2
  have H := Lib.hid h
  have H2 := Lib.hid (objLn.below h hB2)
  have HS := Lib.hid hsp
  have hrt := (line_ok h).rt.1
  have hl6 : s.buf.1.length ≤ 137438953472 := Nat.le_trans hrt.2.1 (by decide)
  have e1 : mS s.buf.1 = s.buf.1 := hrt.make.1
  have e2 : mA s.buf.1 s.buf.2 = s.buf.2 := hrt.make.2
  have HRT := Lib.hid (line_ok h).rt.1
  have HSm := Lib.hid hB
  obtain ⟨g, r, Rl, Rr, hA⟩ := objLn.below h hB2
  have c2 := hA.box.c 2 rfl
  have c3 := hA.box.c 3 rfl
  have c4 := hA.box.c 4 rfl
  have HA := Lib.hid hA
  cases hl : s.last with
  | none => 
    rw [hl] at c2
    rw [show kdL (.none) = 0 from rfl] at c2
    have hpop : s.pop = ⟨s.log, s.ring, .none⟩ := by unfold LN.pop; rw [hl]
    have HP := Lib.hid hpop
    have g1 : ((0 : Int) != 2) = true := rfl
    have ht := ToF.refl HA.out.line
    have HL := Lib.hid hl
    clear hA h hsp hB2 hs2 hk2 hd2 hrt hl6 e1 e2 hB hpop c3 c4 hl
    go_enter Tryd.func56, Tryd.ntmps56
    have hf := fin3 H.out HB2.out (Nat.le_add_right _ 1) (by have := HN2.out; omega) HD2.out (Below.refl _ W2) ht
    have HF := Lib.hid hf.2
    have hd9 := hf.1
    have q0 := hd9.c 0 rfl
    have q1 := hd9.c 1 rfl
    have q2 := hd9.c 2 rfl
    have p0 := hd9.free 0
    have p1 := hd9.free 1
    have p2 := hd9.free 2
    have HD9 := Lib.hid hd9
    clear hf hd9
    go_wp2_with fail
    refine bodyPost_ret (results_bx3 rfl _ _ (w.heap.size + 1) _ _ _ 49 rfl (three_box HD9.out _ _ _) Tryd.underlying49 (szD _)) rfl ?_
    exact ⟨by rw [HP.out]; rfl, by rw [HP.out, ← HL.out]; exact HF.out _ _ _⟩
  | kill => 
    rw [hl] at c2
    rw [show kdL (.kill) = 1 from rfl] at c2
    have hpop : s.pop = ⟨s.log, s.ring, .none⟩ := by unfold LN.pop; rw [hl]
    have HP := Lib.hid hpop
    have g1 : ((1 : Int) != 2) = true := rfl
    have ht := ToF.refl HA.out.line
    have HL := Lib.hid hl
    clear hA h hsp hB2 hs2 hk2 hd2 hrt hl6 e1 e2 hB hpop c3 c4 hl
    go_enter Tryd.func56, Tryd.ntmps56
    have hf := fin3 H.out HB2.out (Nat.le_add_right _ 1) (by have := HN2.out; omega) HD2.out (Below.refl _ W2) ht
    have HF := Lib.hid hf.2
    have hd9 := hf.1
    have q0 := hd9.c 0 rfl
    have q1 := hd9.c 1 rfl
    have q2 := hd9.c 2 rfl
    have p0 := hd9.free 0
    have p1 := hd9.free 1
    have p2 := hd9.free 2
    have HD9 := Lib.hid hd9
    clear hf hd9
    go_wp2_with fail
    refine bodyPost_ret (results_bx3 rfl _ _ (w.heap.size + 1) _ _ _ 49 rfl (three_box HD9.out _ _ _) Tryd.underlying49 (szD _)) rfl ?_
    exact ⟨by rw [HP.out]; rfl, by rw [HP.out, ← HL.out]; exact HF.out _ _ _⟩
  | yank f t =>
    rw [hl] at c2 c3 c4
    have g1 : ((2 : Int) != 2) = false := rfl
    rw [show kdL (.yank f t) = 2 from rfl] at c2
    rw [show frL (.yank f t) = (f : Int) from rfl] at c3
    rw [show toL (.yank f t) = (t : Int) from rfl] at c4
    have HC := Lib.hid (fun W hS => cutT_calls s.buf.1 s.buf.2 (f : Int) (t : Int) hl6 W hS)
    rw [e1, e2] at HC
    have hpop : s.pop = LN.yankAt s.log s.ring.turn ((cutR s.buf.1 s.buf.2 (backL s.buf.1 f) (backL s.buf.1 t)).1, (cutR s.buf.1 s.buf.2 (backL s.buf.1 f) (backL s.buf.1 t)).2.1) (s.ring.l.getD s.ring.turn.i ⟨#[]⟩) (.yank f t) := by unfold LN.pop; rw [hl]
    have HR : Hid (Rt (cutR s.buf.1 s.buf.2 (backL s.buf.1 f) (backL s.buf.1 t)).1 (cutR s.buf.1 s.buf.2 (backL s.buf.1 f) (backL s.buf.1 t)).2.1) := Lib.hid (LN.cutR_rt HRT.out (isB_back _ _) (isB_back _ _))
    have HK : Hid ((s.ring.l.getD s.ring.turn.i ⟨#[]⟩).size ≤ 1000000) := Lib.hid (getD_sm hB _)
    have HT := Lib.hid (fun W (hb : Below W2.heap.size W2 W) => turn_callsS W Rr r s.ring (HA.out.ring.below hb))
    have HSS : Hid (∀ W, Below W2.heap.size W2 W → W.cell? ⟨b, 3, none⟩ = some (.int .i64 (f : Int)) ∧ W.cell? ⟨b, 4, none⟩ = some (.int .i64 (t : Int))) := Lib.hid (fun W hW => ⟨by have := (hA.box.below hW).c 3 rfl; rwa [hl] at this, by have := (hA.box.below hW).c 4 rfl; rwa [hl] at this⟩)
    have HP := Lib.hid hpop
    have HL := Lib.hid hl
    clear hA h hsp hB2 hs2 hk2 hd2 hrt hl6 e1 e2 hB hpop hl
    generalize cutR s.buf.1 s.buf.2 (backL s.buf.1 f) (backL s.buf.1 t) = c at *
    obtain ⟨cs, ca, cg⟩ := c
    dsimp only at HC HR HP
    go_enter Tryd.func56, Tryd.ntmps56
    go_upto_region 3 with fail
    go_cut [5, 6] from 18 (fun s5 s6 wc => ∃ K, s5 = .pointer (some ⟨K, 0, none⟩) ∧ s6 = .string (bs cg) ∧ Below W2.heap.size W2 wc ∧ Bx wc K 23 (.string (bs cs)) (.int .i64 (ca : Int)) ∧ W2.heap.size ≤ K)
    case first =>
      have HBd : Hid (Below W2.heap.size W2 W2.drew) := Lib.hid (Below.refl _ W2).drew
      refine wp_region_last (S := (fun w' => w'.cell? ⟨b, 3, none⟩ = some (.int .i64 (f : Int)) ∧ w'.cell? ⟨b, 4, none⟩ = some (.int .i64 (t : Int)))) 18 (by kernel_rfl) ⟨c3, c4⟩ (fun hHeld => ?_)
      refine lastAny_take (i := 0) (oi := ⟨some 19, _, _, _, _, _⟩) (v := ?_) rfl (by kernel_rfl) (by kernel_rfl) (by kernel_rfl) (by kernel_rfl) (fun _ _ _ h => h) (Or.inl ⟨by kernel_rfl, ?hy0⟩) (by assumption) ?_
      case hy0 => (intro w' hSw; (try dsimp only at hSw); go_simp; try with_reducible rfl)
      simp only [Act.put, List.setIfInBounds_toArray, List.set_cons_zero, List.set_cons_succ]
      refine lastAny_take (i := 2) (oi := ⟨some 21, _, _, _, _, _⟩) (v := ?_) rfl (by kernel_rfl) (by kernel_rfl) (by kernel_rfl) (by kernel_rfl) (fun _ _ _ h => h) (Or.inl ⟨by kernel_rfl, ?hy2⟩) (by assumption) ?_
      case hy2 => (intro w' hSw; (try dsimp only at hSw); go_simp; try with_reducible rfl)
      simp only [Act.put, List.setIfInBounds_toArray, List.set_cons_zero, List.set_cons_succ]
      refine lastAny_take (i := 3) (oi := ⟨some 22, _, _, _, _, _⟩) (v := ?_) rfl (by kernel_rfl) (by kernel_rfl) (by kernel_rfl) (by kernel_rfl) (fun _ _ _ h => h) (Or.inl ⟨by kernel_rfl, ?hy3⟩) (by assumption) ?_
      case hy3 => (intro w' hSw; (try dsimp only at hSw); go_simp; try with_reducible rfl)
      simp only [Act.put, List.setIfInBounds_toArray, List.set_cons_zero, List.set_cons_succ]
      refine lastAny_take (i := 4) (oi := ⟨some 23, _, _, _, _, _⟩) (v := ?_) rfl (by kernel_rfl) (by kernel_rfl) (by kernel_rfl) (by kernel_rfl) (fun _ _ _ h => h) (Or.inl ⟨by kernel_rfl, ?hy4⟩) (by assumption) ?_
      case hy4 => (intro w' hSw; (try dsimp only at hSw); go_simp; try with_reducible rfl)
      simp only [Act.put, List.setIfInBounds_toArray, List.set_cons_zero, List.set_cons_succ]
      refine lastAny_take (i := 5) (oi := ⟨some 24, _, _, _, _, _⟩) (v := ?_) rfl (by kernel_rfl) (by kernel_rfl) (by kernel_rfl) (by kernel_rfl) (fun _ _ _ h => h) (Or.inl ⟨by kernel_rfl, ?hy5⟩) (by assumption) ?_
      case hy5 => (intro w' hSw; (try dsimp only at hSw); go_simp; try with_reducible rfl)
      simp only [Act.put, List.setIfInBounds_toArray, List.set_cons_zero, List.set_cons_succ]
      refine lastAny_take (i := 6) (oi := ⟨some 25, _, _, _, _, _⟩) (v := ?_) rfl (by kernel_rfl) (by kernel_rfl) (by kernel_rfl) (by kernel_rfl) (fun _ _ _ h => h) (Or.inl ⟨by kernel_rfl, ?hy6⟩) (by assumption) ?_
      case hy6 => (intro w' hSw; (try dsimp only at hSw); go_simp; try with_reducible rfl)
      simp only [Act.put, List.setIfInBounds_toArray, List.set_cons_zero, List.set_cons_succ]
      refine lastAny_take (i := 7) (oi := ⟨some 26, _, _, _, _, _⟩) (v := ?_) rfl (by kernel_rfl) (by kernel_rfl) (by kernel_rfl) (by kernel_rfl) (fun _ _ _ h => h) (Or.inl ⟨by kernel_rfl, ?hy7⟩) (by assumption) ?_
      case hy7 => (intro w' hSw; (try dsimp only at hSw); go_simp; try with_reducible rfl)
      simp only [Act.put, List.setIfInBounds_toArray, List.set_cons_zero, List.set_cons_succ]
      refine lastAny_take (i := 8) (oi := ⟨some 27, _, _, _, _, _⟩) (v := ?_) rfl (by kernel_rfl) (by kernel_rfl) (by kernel_rfl) (by kernel_rfl) (fun _ _ _ h => h) (Or.inl ⟨by kernel_rfl, ?hy8⟩) (by assumption) ?_
      case hy8 => (intro w' hSw; (try dsimp only at hSw); go_simp; try with_reducible rfl)
      simp only [Act.put, List.setIfInBounds_toArray, List.set_cons_zero, List.set_cons_succ]
      refine lastAny_take (i := 9) (oi := ⟨some 28, _, _, _, _, _⟩) (v := ?_) rfl (by kernel_rfl) (by kernel_rfl) (by kernel_rfl) (by kernel_rfl) (fun _ _ _ h => h) (Or.inl ⟨by kernel_rfl, ?hy9⟩) (by assumption) ?_
      case hy9 => (intro w' hSw; (try dsimp only at hSw); go_simp; try with_reducible rfl)
      simp only [Act.put, List.setIfInBounds_toArray, List.set_cons_zero, List.set_cons_succ]
      refine lastAny_take (i := 10) (oi := ⟨some 29, _, _, _, _, _⟩) (v := ?_) rfl (by kernel_rfl) (by kernel_rfl) (by kernel_rfl) (by kernel_rfl) (fun _ _ _ h => h) (Or.inl ⟨by kernel_rfl, ?hy10⟩) (by assumption) ?_
      case hy10 => (intro w' hSw; (try dsimp only at hSw); go_simp; try with_reducible rfl)
      simp only [Act.put, List.setIfInBounds_toArray, List.set_cons_zero, List.set_cons_succ]
      refine lastAny_take (i := 11) (oi := ⟨some 30, _, _, _, _, _⟩) (v := ?_) rfl (by kernel_rfl) (by kernel_rfl) (by kernel_rfl) (by kernel_rfl) (fun _ _ _ h => h) (Or.inl ⟨by kernel_rfl, ?hy11⟩) (by assumption) ?_
      case hy11 => (intro w' hSw; (try dsimp only at hSw); go_simp; try with_reducible rfl)
      simp only [Act.put, List.setIfInBounds_toArray, List.set_cons_zero, List.set_cons_succ]
      refine lastAny_ready (rs := [1, 16]) (by kernel_rfl) (by simp) ?_
      refine AllReadyL.cons (o := ⟨some 20, _, _, _, _, _⟩) rfl (fun K hK => ?_) (AllReadyL.cons (o := ⟨some 5, _, _, _, _, _⟩) rfl (fun K hK => ?_) AllReadyL.nil)
      · (rw [if_pos (by kernel_rfl)])
        go_simp
        refine (buf_callsL W2.drew O F b s (objLn.below H2.out HBd.out) (spans_below HS.out (HB2.out.trans (HBd.out.mono HB2.out.size)))).mono ?_
        rintro e w4 ⟨rfl, hb⟩
        have hbn := HBd.out.trans (hb.mono HBd.out.size)
        have qn := HSS.out w4 hbn
        have HB4 := Lib.hid hbn
        clear hb hbn
        refine hK.out _ _ qn (fun hHeld => ?_)
        clear hK K qn
        refine lastAny_ready (rs := [12, 16]) (by kernel_rfl) (by simp) ?_
        refine AllReadyL.cons (o := ⟨some 31, _, _, _, _, _⟩) rfl (fun K hK => ?_) (AllReadyL.cons (o := ⟨some 5, _, _, _, _, _⟩) rfl (fun K hK => ?_) AllReadyL.nil)
        · (rw [if_pos (by kernel_rfl)])
          go_simp
          refine (HC.out w4 (spans_below HS.out (HB2.out.trans (HB4.out.mono HB2.out.size)))).mono ?_
          rintro e w5 ⟨rfl, hb⟩
          have hbn := HB4.out.trans (hb.mono HB4.out.size)
          have qn := HSS.out w5 hbn
          have HB5 := Lib.hid hbn
          clear hb hbn
          refine hK.out _ _ qn (fun hHeld => ?_)
          clear hK K qn
          refine lastAny_take (i := 13) (oi := ⟨some 18, _, _, _, _, _⟩) (v := ?_) rfl (by kernel_rfl) (by kernel_rfl) (by kernel_rfl) (by kernel_rfl) (fun _ _ _ h => h) (Or.inl ⟨by kernel_rfl, ?hy13⟩) (by assumption) ?_
          case hy13 => (intro w' hSw; (try dsimp only at hSw); go_simp; try with_reducible rfl)
          simp only [Act.put, List.setIfInBounds_toArray, List.set_cons_zero, List.set_cons_succ]
          refine lastAny_take (i := 14) (oi := ⟨some 32, _, _, _, _, _⟩) (v := ?_) rfl (by kernel_rfl) (by kernel_rfl) (by kernel_rfl) (by kernel_rfl) (fun _ _ _ h => h) (Or.inl ⟨by kernel_rfl, ?hy14⟩) (by assumption) ?_
          case hy14 => (intro w' hSw; (try dsimp only at hSw); go_simp; try with_reducible rfl)
          simp only [Act.put, List.setIfInBounds_toArray, List.set_cons_zero, List.set_cons_succ]
          refine lastAny_take (i := 15) (oi := ⟨some 33, _, _, _, _, _⟩) (v := ?_) rfl (by kernel_rfl) (by kernel_rfl) (by kernel_rfl) (by kernel_rfl) (fun _ _ _ h => h) (Or.inl ⟨by kernel_rfl, ?hy15⟩) (by assumption) ?_
          case hy15 => (intro w' hSw; (try dsimp only at hSw); go_simp; try with_reducible rfl)
          simp only [Act.put, List.setIfInBounds_toArray, List.set_cons_zero, List.set_cons_succ]
          refine lastAny_ready (rs := [16]) (by kernel_rfl) (by simp) ?_
          refine AllReadyL.cons (o := ⟨some 5, _, _, _, _, _⟩) rfl (fun K hK => ?_) AllReadyL.nil
          (rw [if_pos (by kernel_rfl)])
          go_simp
          have hbn : Below W2.heap.size W2 (w5.alloc (.cells #[.string ⟨#[]⟩, .int .i64 0] 23)) := HB5.out.alloc HB5.out.size _
          have qn := HSS.out _ hbn
          have x := Bx.new w5 23 (.string ⟨#[]⟩) (.int .i64 0)
          have HKW : Hid (W2.heap.size ≤ w5.heap.size) := Lib.hid (HB5.out.size)
          have HB6 := Lib.hid hbn
          have HX6 := Lib.hid x
          clear x hbn
          refine hK.out _ _ qn (fun hHeld => ?_)
          clear hK K qn
          have x5 := Bx.new w5 23 (.string (bs cs)) (.int .i64 (ca : Int))
          have hb5 : Below W2.heap.size W2 (w5.alloc (.cells #[.string (bs cs), .int .i64 (ca : Int)] 23)) := HB5.out.alloc HB5.out.size _
          have hkw := HKW.out
          have q5 := HSS.out _ hb5
          have y0 := HX6.out.c0
          have y1 := HX6.out.c1
          have z0 := HX6.out.f0
          have z1 := HX6.out.f1
          have HX5 := Lib.hid x5
          have HB5 := Lib.hid hb5
          clear x5 hb5
          refine lastAny_ready (rs := [17]) (by kernel_rfl) (by simp) ?_
          refine AllReadyL.cons (o := ⟨none, _, _, _, _, _⟩) rfl (fun K hK => ?_) AllReadyL.nil
          (rw [if_pos (by kernel_rfl)])
          go_simp
          refine hK.out _ _ q5 (fun hHeld => ?_)
          clear hK K
          refine lastAny_end (by kernel_rfl) rfl (by kernel_rfl) (by kernel_rfl) (fun K hK => ?_)
          go_simp
          refine hK.out _ _ ?_
          clear hK K
          go_wp2_with fail
          go_meet
          exact ⟨_, rfl, rfl, HB5.out, HX5.out, hkw⟩
        · (rw [if_pos (by kernel_rfl)])
          go_simp
          have hbn : Below W2.heap.size W2 (w4.alloc (.cells #[.string ⟨#[]⟩, .int .i64 0] 23)) := HB4.out.alloc HB4.out.size _
          have qn := HSS.out _ hbn
          have x := Bx.new w4 23 (.string ⟨#[]⟩) (.int .i64 0)
          have HKW : Hid (W2.heap.size ≤ w4.heap.size) := Lib.hid (HB4.out.size)
          have HB5 := Lib.hid hbn
          have HX5 := Lib.hid x
          clear x hbn
          refine hK.out _ _ qn (fun hHeld => ?_)
          clear hK K qn
          refine lastAny_ready (rs := [12]) (by kernel_rfl) (by simp) ?_
          refine AllReadyL.cons (o := ⟨some 31, _, _, _, _, _⟩) rfl (fun K hK => ?_) AllReadyL.nil
          (rw [if_pos (by kernel_rfl)])
          go_simp
          refine (HC.out (w4.alloc (.cells #[.string ⟨#[]⟩, .int .i64 0] 23)) (spans_below HS.out (HB2.out.trans (HB5.out.mono HB2.out.size)))).mono ?_
          rintro e w6 ⟨rfl, hb⟩
          have hbn := HB5.out.trans (hb.mono HB5.out.size)
          have qn := HSS.out w6 hbn
          have HB6 := Lib.hid hbn
          have HX6 := Lib.hid (HX5.out.below hb)
          clear hb hbn
          refine hK.out _ _ qn (fun hHeld => ?_)
          clear hK K qn
          refine lastAny_take (i := 13) (oi := ⟨some 18, _, _, _, _, _⟩) (v := ?_) rfl (by kernel_rfl) (by kernel_rfl) (by kernel_rfl) (by kernel_rfl) (fun _ _ _ h => h) (Or.inl ⟨by kernel_rfl, ?hy13⟩) (by assumption) ?_
          case hy13 => (intro w' hSw; (try dsimp only at hSw); go_simp; try with_reducible rfl)
          simp only [Act.put, List.setIfInBounds_toArray, List.set_cons_zero, List.set_cons_succ]
          refine lastAny_take (i := 14) (oi := ⟨some 32, _, _, _, _, _⟩) (v := ?_) rfl (by kernel_rfl) (by kernel_rfl) (by kernel_rfl) (by kernel_rfl) (fun _ _ _ h => h) (Or.inl ⟨by kernel_rfl, ?hy14⟩) (by assumption) ?_
          case hy14 => (intro w' hSw; (try dsimp only at hSw); go_simp; try with_reducible rfl)
          simp only [Act.put, List.setIfInBounds_toArray, List.set_cons_zero, List.set_cons_succ]
          refine lastAny_take (i := 15) (oi := ⟨some 33, _, _, _, _, _⟩) (v := ?_) rfl (by kernel_rfl) (by kernel_rfl) (by kernel_rfl) (by kernel_rfl) (fun _ _ _ h => h) (Or.inl ⟨by kernel_rfl, ?hy15⟩) (by assumption) ?_
          case hy15 => (intro w' hSw; (try dsimp only at hSw); go_simp; try with_reducible rfl)
          simp only [Act.put, List.setIfInBounds_toArray, List.set_cons_zero, List.set_cons_succ]
          have x5 := (HX6.out.set0 (.string (bs cs))).set1 (.int .i64 (ca : Int))
          have hb5 : Below W2.heap.size W2 ((w6.setCell ⟨w4.heap.size, 0, none⟩ (.string (bs cs))).setCell ⟨w4.heap.size, 1, none⟩ (.int .i64 (ca : Int))) := (HB6.out.setCell (p := ⟨w4.heap.size, 0, none⟩) HKW.out _).setCell (p := ⟨w4.heap.size, 1, none⟩) HKW.out _
          have hkw := HKW.out
          have q5 := HSS.out _ hb5
          have y0 := HX6.out.c0
          have y1 := HX6.out.c1
          have z0 := HX6.out.f0
          have z1 := HX6.out.f1
          have HX5 := Lib.hid x5
          have HB5 := Lib.hid hb5
          clear x5 hb5
          refine lastAny_ready (rs := [17]) (by kernel_rfl) (by simp) ?_
          refine AllReadyL.cons (o := ⟨none, _, _, _, _, _⟩) rfl (fun K hK => ?_) AllReadyL.nil
          (rw [if_pos (by kernel_rfl)])
          go_simp
          refine hK.out _ _ q5 (fun hHeld => ?_)
          clear hK K
          refine lastAny_end (by kernel_rfl) rfl (by kernel_rfl) (by kernel_rfl) (fun K hK => ?_)
          go_simp
          refine hK.out _ _ ?_
          clear hK K
          go_wp2_with fail
          go_meet
          exact ⟨_, rfl, rfl, HB5.out, HX5.out, hkw⟩
      · (rw [if_pos (by kernel_rfl)])
        go_simp
        have hbn : Below W2.heap.size W2 (W2.drew.alloc (.cells #[.string ⟨#[]⟩, .int .i64 0] 23)) := HBd.out.alloc HBd.out.size _
        have qn := HSS.out _ hbn
        have x := Bx.new W2.drew 23 (.string ⟨#[]⟩) (.int .i64 0)
        rw [show W2.drew.heap.size = W2.heap.size from rfl] at x
        have HKW : Hid (W2.heap.size ≤ W2.heap.size) := Lib.hid (Nat.le_refl _)
        have HB4 := Lib.hid hbn
        have HX4 := Lib.hid x
        clear x hbn
        refine hK.out _ _ qn (fun hHeld => ?_)
        clear hK K qn
        refine lastAny_ready (rs := [1]) (by kernel_rfl) (by simp) ?_
        refine AllReadyL.cons (o := ⟨some 20, _, _, _, _, _⟩) rfl (fun K hK => ?_) AllReadyL.nil
        (rw [if_pos (by kernel_rfl)])
        go_simp
        refine (buf_callsL (W2.drew.alloc (.cells #[.string ⟨#[]⟩, .int .i64 0] 23)) O F b s (objLn.below H2.out HB4.out) (spans_below HS.out (HB2.out.trans (HB4.out.mono HB2.out.size)))).mono ?_
        rintro e w5 ⟨rfl, hb⟩
        have hbn := HB4.out.trans (hb.mono HB4.out.size)
        have qn := HSS.out w5 hbn
        have HB5 := Lib.hid hbn
        have HX5 := Lib.hid (HX4.out.below hb)
        clear hb hbn
        refine hK.out _ _ qn (fun hHeld => ?_)
        clear hK K qn
        refine lastAny_ready (rs := [12]) (by kernel_rfl) (by simp) ?_
        refine AllReadyL.cons (o := ⟨some 31, _, _, _, _, _⟩) rfl (fun K hK => ?_) AllReadyL.nil
        (rw [if_pos (by kernel_rfl)])
        go_simp
        refine (HC.out w5 (spans_below HS.out (HB2.out.trans (HB5.out.mono HB2.out.size)))).mono ?_
        rintro e w6 ⟨rfl, hb⟩
        have hbn := HB5.out.trans (hb.mono HB5.out.size)
        have qn := HSS.out w6 hbn
        have HB6 := Lib.hid hbn
        have HX6 := Lib.hid (HX5.out.below hb)
        clear hb hbn
        refine hK.out _ _ qn (fun hHeld => ?_)
        clear hK K qn
        refine lastAny_take (i := 13) (oi := ⟨some 18, _, _, _, _, _⟩) (v := ?_) rfl (by kernel_rfl) (by kernel_rfl) (by kernel_rfl) (by kernel_rfl) (fun _ _ _ h => h) (Or.inl ⟨by kernel_rfl, ?hy13⟩) (by assumption) ?_
        case hy13 => (intro w' hSw; (try dsimp only at hSw); go_simp; try with_reducible rfl)
        simp only [Act.put, List.setIfInBounds_toArray, List.set_cons_zero, List.set_cons_succ]
        refine lastAny_take (i := 14) (oi := ⟨some 32, _, _, _, _, _⟩) (v := ?_) rfl (by kernel_rfl) (by kernel_rfl) (by kernel_rfl) (by kernel_rfl) (fun _ _ _ h => h) (Or.inl ⟨by kernel_rfl, ?hy14⟩) (by assumption) ?_
        case hy14 => (intro w' hSw; (try dsimp only at hSw); go_simp; try with_reducible rfl)
        simp only [Act.put, List.setIfInBounds_toArray, List.set_cons_zero, List.set_cons_succ]
        refine lastAny_take (i := 15) (oi := ⟨some 33, _, _, _, _, _⟩) (v := ?_) rfl (by kernel_rfl) (by kernel_rfl) (by kernel_rfl) (by kernel_rfl) (fun _ _ _ h => h) (Or.inl ⟨by kernel_rfl, ?hy15⟩) (by assumption) ?_
        case hy15 => (intro w' hSw; (try dsimp only at hSw); go_simp; try with_reducible rfl)
        simp only [Act.put, List.setIfInBounds_toArray, List.set_cons_zero, List.set_cons_succ]
        have x5 := (HX6.out.set0 (.string (bs cs))).set1 (.int .i64 (ca : Int))
        have hb5 : Below W2.heap.size W2 ((w6.setCell ⟨W2.heap.size, 0, none⟩ (.string (bs cs))).setCell ⟨W2.heap.size, 1, none⟩ (.int .i64 (ca : Int))) := (HB6.out.setCell (p := ⟨W2.heap.size, 0, none⟩) HKW.out _).setCell (p := ⟨W2.heap.size, 1, none⟩) HKW.out _
        have hkw := HKW.out
        have q5 := HSS.out _ hb5
        have y0 := HX6.out.c0
        have y1 := HX6.out.c1
        have z0 := HX6.out.f0
        have z1 := HX6.out.f1
        have HX5 := Lib.hid x5
        have HB5 := Lib.hid hb5
        clear x5 hb5
        refine lastAny_ready (rs := [17]) (by kernel_rfl) (by simp) ?_
        refine AllReadyL.cons (o := ⟨none, _, _, _, _, _⟩) rfl (fun K hK => ?_) AllReadyL.nil
        (rw [if_pos (by kernel_rfl)])
        go_simp
        refine hK.out _ _ q5 (fun hHeld => ?_)
        clear hK K
        refine lastAny_end (by kernel_rfl) rfl (by kernel_rfl) (by kernel_rfl) (fun K hK => ?_)
        go_simp
        refine hK.out _ _ ?_
        clear hK K
        go_wp2_with fail
        go_meet
        exact ⟨_, rfl, rfl, HB5.out, HX5.out, hkw⟩
    case rest =>
      obtain ⟨K, rfl, rfl, hBc, hK, hKW⟩ := hcut
      have r0 := hK.c0
      have r1 := hK.c1
      have HBC := Lib.hid hBc
      have HKx := Lib.hid hK
      have HAc := Lib.hid (HA.out.below hBc)
      have c1 := HAc.out.box.c 1 rfl
      clear HSS HC hK hBc c2 c3 c4
      go_wp2_with fail
      refine (HT.out wc HBC.out).mono ?_
      rintro e w3 ⟨rfl, ht⟩
      obtain ⟨_, _, ho3, _⟩ := id ht
      have hnK : ¬ Rr K := fun hk => by have := HA.out.ring.lt K hk; omega
      have HX3 := Lib.hid (show Bx w3 K 23 (.string (bs cs)) (.int .i64 (ca : Int)) from HKx.out.keepO ho3 hnK)
      obtain ⟨Rr3, O3, hA3, hst⟩ := HAc.out.ring_at ht ⟨HA.out.ok.log, HA.out.ok.lim, HA.out.ok.rt, HA.out.ok.ring.turn, HA.out.ok.rlim⟩
      have HST := Lib.hid ((StepF.below O F HBC.out).trans hst)
      have H3 := Lib.hid hA3.line
      have HA3 := Lib.hid hA3
      have HSP3 : Hid (Spans w3) := Lib.hid (spans_only (spans_below HS.out HB2.out) HST.out.1 HA.out.sp.2)
      have u0 := HX3.out.c0
      have u1 := HX3.out.c1
      clear ht hA3 hst ho3 hnK HT r0 r1 c1 HKx
      generalize s.ring.l.getD s.ring.turn.i ⟨#[]⟩ = x at HK HP ⊢
      by_cases hfit : fits (cs, ca) (plainL (bl x))
      · have hy2 : LN.yankAt s.log s.ring.turn (cs, ca) x (.yank f t) = ⟨wrG s.log (insB (cs, ca) (plainL (bl x))) 0, s.ring.turn, .yank ca (insB (cs, ca) (plainL (bl x))).2⟩ := if_pos hfit
        have HBr := Lib.hid (bring_yes w3 O3 F b _ H3.out HSP3.out (cs, ca) HR.out x HK.out hfit)
        have HY2 := Lib.hid (HP.out.trans hy2)
        clear hy2 hfit
        go_wp2_with fail
        refine HBr.out.mono ?_
        rintro e w6 ⟨rfl, ht6⟩
        have x3 := BxA.new w6 49 [.int .i64 0, .int .i64 0, .int .i64 0]
        have f0 := x3.free 0
        have f1 := x3.free 1
        have f2 := x3.free 2
        have g0 := x3.c 0 rfl
        have g1 := x3.c 1 rfl
        have g2 := x3.c 2 rfl
        have x4 := BxA.new w6 49 [.int .i64 (kdL (.yank ca (insB (cs, ca) (plainL (bl x))).2)), .int .i64 (frL (.yank ca (insB (cs, ca) (plainL (bl x))).2)), .int .i64 (toL (.yank ca (insB (cs, ca) (plainL (bl x))).2))]
        have ht7 := (HST.out.tom ht6).below objLn ((Below.refl _ w6).alloc (Nat.le_refl _) (.cells #[.int .i64 (kdL (.yank ca (insB (cs, ca) (plainL (bl x))).2)), .int .i64 (frL (.yank ca (insB (cs, ca) (plainL (bl x))).2)), .int .i64 (toL (.yank ca (insB (cs, ca) (plainL (bl x))).2))] 49))
        obtain ⟨W7, hW7⟩ : ∃ W7, w6.alloc (.cells #[.int .i64 (kdL (.yank ca (insB (cs, ca) (plainL (bl x))).2)), .int .i64 (frL (.yank ca (insB (cs, ca) (plainL (bl x))).2)), .int .i64 (toL (.yank ca (insB (cs, ca) (plainL (bl x))).2))] 49) = W7 := ⟨_, rfl⟩
        have x5 : BxA W7 w6.heap.size 49 [.int .i64 (kdL (.yank ca (insB (cs, ca) (plainL (bl x))).2)), .int .i64 (frL (.yank ca (insB (cs, ca) (plainL (bl x))).2)), .int .i64 (toL (.yank ca (insB (cs, ca) (plainL (bl x))).2))] := by rw [← hW7]; exact x4
        rw [hW7] at ht7
        have y0 := x5.c 0 rfl
        have y1 := x5.c 1 rfl
        have y2 := x5.c 2 rfl
        clear x3 x4 x5 HBr
        have hf := fin3 H.out HB2.out (Nat.le_add_right _ 1) (by have := HN2.out; omega) HD2.out (Below.refl _ W2) ht7
        have HF := Lib.hid hf.2
        have hd9 := hf.1
        have q0 := hd9.c 0 rfl
        have q1 := hd9.c 1 rfl
        have q2 := hd9.c 2 rfl
        have p0 := hd9.free 0
        have p1 := hd9.free 1
        have p2 := hd9.free 2
        have HD9 := Lib.hid hd9
        clear hf hd9
        go_wp2_with fail
        refine bodyPost_ret (results_bx3 rfl _ _ (w.heap.size + 1) _ _ _ 49 rfl (three_box HD9.out _ _ _) Tryd.underlying49 (szD _)) rfl ?_
        exact ⟨by rw [HY2.out], by rw [HY2.out, ← HL.out]; exact HF.out _ _ _⟩
      · have hy2 : LN.yankAt s.log s.ring.turn (cs, ca) x (.yank f t) = ⟨s.log, s.ring.turn, .yank f t⟩ := if_neg hfit
        have HBr := Lib.hid (bring_no w3 O3 F b _ H3.out HSP3.out (cs, ca) HR.out x HK.out hfit)
        have HY2 := Lib.hid (HP.out.trans hy2)
        clear hy2 hfit
        go_wp2_with fail
        refine HBr.out.mono ?_
        rintro e w6 ⟨rfl, ht6⟩
        have x3 := BxA.new w6 49 [.int .i64 0, .int .i64 0, .int .i64 0]
        have f0 := x3.free 0
        have f1 := x3.free 1
        have f2 := x3.free 2
        have g0 := x3.c 0 rfl
        have g1 := x3.c 1 rfl
        have g2 := x3.c 2 rfl
        have x4 := BxA.new w6 49 [.int .i64 (kdL .none), .int .i64 (frL .none), .int .i64 (toL .none)]
        have ht7 := (HST.out.tom ht6).below objLn ((Below.refl _ w6).alloc (Nat.le_refl _) (.cells #[.int .i64 (kdL .none), .int .i64 (frL .none), .int .i64 (toL .none)] 49))
        obtain ⟨W7, hW7⟩ : ∃ W7, w6.alloc (.cells #[.int .i64 (kdL .none), .int .i64 (frL .none), .int .i64 (toL .none)] 49) = W7 := ⟨_, rfl⟩
        have x5 : BxA W7 w6.heap.size 49 [.int .i64 (kdL .none), .int .i64 (frL .none), .int .i64 (toL .none)] := by rw [← hW7]; exact x4
        rw [hW7] at ht7
        have y0 := x5.c 0 rfl
        have y1 := x5.c 1 rfl
        have y2 := x5.c 2 rfl
        clear x3 x4 x5 HBr
        obtain ⟨O7, F7, h7, _⟩ := id ht7
        obtain ⟨g7, r7, Rl7, Rr7, hA7⟩ := h7
        have v2 := hA7.box.c 2 rfl
        have v3 := hA7.box.c 3 rfl
        have v4 := hA7.box.c 4 rfl
        dsimp only at v2 v3 v4
        rw [HL.out] at v2 v3 v4
        clear hA7
        have hf := fin3 H.out HB2.out (Nat.le_add_right _ 1) (by have := HN2.out; omega) HD2.out (Below.refl _ W2) ht7
        have HF := Lib.hid hf.2
        have hd9 := hf.1
        have q0 := hd9.c 0 rfl
        have q1 := hd9.c 1 rfl
        have q2 := hd9.c 2 rfl
        have p0 := hd9.free 0
        have p1 := hd9.free 1
        have p2 := hd9.free 2
        have HD9 := Lib.hid hd9
        clear hf hd9
        go_wp2_with fail
        refine bodyPost_ret (results_bx3 rfl _ _ (w.heap.size + 1) _ _ _ 49 rfl (three_box HD9.out _ _ _) Tryd.underlying49 (szD _)) rfl ?_
        exact ⟨by rw [HY2.out], by rw [HY2.out, ← HL.out]; exact HF.out _ _ _⟩
end
end
section
open Go Go.RowKit
set_option maxRecDepth 100000
section
variable (w : World) (O F : Nat → Prop) (b : Nat) (s : LN)
theorem boxK (w : World) (k : Int) (t : ByteArray) : ∃ W2, w.alloc (.cells #[.int .i64 k, .string t] 31) = W2 ∧ Below w.heap.size w W2 ∧ Bx W2 w.heap.size 31 (.int .i64 k) (.string t) := ⟨_, rfl, (Below.refl _ w).alloc (Nat.le_refl _) _, Bx.new w _ _ _⟩
set_option maxHeartbeats 2000000 in
theorem key_hit (h : LineL w O F b s) (hsp : Spans w) (k : Int) (t : List UInt8) (N i : Nat) (s' : LN) (hfind : Instr.findNow (.int .i64) (.int .i64 k) actE.toList 0 = some (some (i, .func (.func N) #[] #[]))) (eg : ∀ args w, (callFunc N args).run Tryd.prog w = .ok (.enter N args) w)
    (hact : ∀ W, LineL W O F b s → Spans W → Calls Tryd.prog N #[.pointer (some ⟨b, 0, none⟩), .agg #[.int .i64 k, .string (bs t)]] W fun e w' => e = .returned (dV s'.last) ∧ ToLn W O F w' b ⟨s'.log, s'.ring, s.last⟩) :
    Calls Tryd.prog 10 #[.pointer (some ⟨b, 0, none⟩), .agg #[.int .i64 k, .string (bs t)]] w fun e w' => e = .returned (.bool true) ∧ ToLn w O F w' b s' := by
  obtain ⟨W2, hW2, hB2, hx2⟩ := boxK w k (bs t)
  have HX2 := Lib.hid hx2
  have HB2 := Lib.hid hB2
  have H := Lib.hid h
  have HS := Lib.hid hsp
  have HAct := Lib.hid hact
  have HFd := Lib.hid hfind
  have hx0 := hx2.c0
  clear h hsp hB2 hact hx2 hfind
  go_enter Tryd.func10, Tryd.ntmps10
  go_upto_region 1 with fail
  refine wp_region_held_drew (S := (fun w' => w'.cell? ⟨w.heap.size, 0, none⟩ = some (.int .i64 k))) (by kernel_rfl) hx0 (fun hHeld => ?_)
  refine wpAnyH_take (i := 1) (oi := ⟨some 9, _, _, _, _, _⟩) (v := ?_) rfl (by kernel_rfl) (by kernel_rfl) (by kernel_rfl) (fun _ _ _ h => h) (Or.inl ⟨by kernel_rfl, ?hy1⟩) (by assumption) ?_
  case hy1 => (intro w' hSw; (try dsimp only at hSw); go_simp; try with_reducible rfl)
  simp only [Act.put, List.setIfInBounds_toArray, List.set_cons_zero, List.set_cons_succ]
  refine wpAnyH_take (i := 2) (oi := ⟨some 10, _, _, _, _, _⟩) (v := ?_) rfl (by kernel_rfl) (by kernel_rfl) (by kernel_rfl) (fun _ _ _ h => h) (Or.inl ⟨by kernel_rfl, ?hy2⟩) (by assumption) ?_
  case hy2 => (intro w' hSw; (try dsimp only at hSw); go_simp; try with_reducible rfl)
  simp only [Act.put, List.setIfInBounds_toArray, List.set_cons_zero, List.set_cons_succ]
  refine wpAnyH_ready (rs := [0]) (by kernel_rfl) (by simp) ?_
  refine AllReadyH.cons (o := ⟨some 8, _, _, _, _, _⟩) rfl (fun K hK => ?_) AllReadyH.nil
  (rw [if_pos (by kernel_rfl)])
  go_simp
  refine (acts_calls W2.drew).mono ?_
  rintro e w3 ⟨m, rfl, hm, hb3⟩
  have hrun := acts_find hm k i _ HFd.out
  have hb3' : Below W2.heap.size W2 w3 := (Below.refl _ W2).drew.trans hb3
  have x3 := HX2.out.below hb3'
  have q3 := x3.c0
  have q4 := x3.c1
  have HB3 := Lib.hid (HB2.out.trans (hb3'.mono HB2.out.size))
  clear hb3 hb3' hm x3
  refine hK.out _ _ q3 (fun hHeld => ?_)
  clear hK K
  refine wpAnyH_ready (rs := [3]) (by kernel_rfl) (by simp) ?_
  refine AllReadyH.cons (o := ⟨some 11, _, _, _, _, _⟩) rfl (fun K hK => ?_) AllReadyH.nil
  (rw [if_pos (by kernel_rfl)])
  go_simp
  refine hK.out _ _ q3 (fun hHeld => ?_)
  clear hK K
  refine wpAnyH_take (i := 4) (oi := ⟨some 7, _, _, _, _, _⟩) (v := ?_) rfl (by kernel_rfl) (by kernel_rfl) (by kernel_rfl) (fun _ _ _ h => h) (Or.inl ⟨by kernel_rfl, ?hy4⟩) (by assumption) ?_
  case hy4 => (intro w' hSw; (try dsimp only at hSw); go_simp; try with_reducible rfl)
  simp only [Act.put, List.setIfInBounds_toArray, List.set_cons_zero, List.set_cons_succ]
  refine wpAnyH_take (i := 5) (oi := ⟨some 12, _, _, _, _, _⟩) (v := ?_) rfl (by kernel_rfl) (by kernel_rfl) (by kernel_rfl) (fun _ _ _ h => h) (Or.inl ⟨by kernel_rfl, ?hy5⟩) (by assumption) ?_
  case hy5 => (intro w' hSw; (try dsimp only at hSw); go_simp; try with_reducible rfl)
  simp only [Act.put, List.setIfInBounds_toArray, List.set_cons_zero, List.set_cons_succ]
  refine wpAnyH_take (i := 6) (oi := ⟨some 13, _, _, _, _, _⟩) (v := ?_) rfl (by kernel_rfl) (by kernel_rfl) (by kernel_rfl) (fun _ _ _ h => h) (Or.inl ⟨by kernel_rfl, ?hy6⟩) (by assumption) ?_
  case hy6 => (intro w' hSw; (try dsimp only at hSw); go_simp; try with_reducible rfl)
  simp only [Act.put, List.setIfInBounds_toArray, List.set_cons_zero, List.set_cons_succ]
  refine wpAnyH_take (i := 7) (oi := ⟨some 5, _, _, _, _, _⟩) (v := ?_) rfl (by kernel_rfl) (by kernel_rfl) (by kernel_rfl) (fun _ _ _ h => h) (Or.inl ⟨by kernel_rfl, ?hy7⟩) (by assumption) ?_
  case hy7 => (intro w' hSw; (try dsimp only at hSw); go_simp; try with_reducible rfl)
  simp only [Act.put, List.setIfInBounds_toArray, List.set_cons_zero, List.set_cons_succ]
  refine wpAnyH_take (i := 8) (oi := ⟨some 6, _, _, _, _, _⟩) (v := ?_) rfl (by kernel_rfl) (by kernel_rfl) (by kernel_rfl) (fun _ _ _ h => h) (Or.inl ⟨by kernel_rfl, ?hy8⟩) (by assumption) ?_
  case hy8 => (intro w' hSw; (try dsimp only at hSw); go_simp; try with_reducible rfl)
  simp only [Act.put, List.setIfInBounds_toArray, List.set_cons_zero, List.set_cons_succ]
  refine wpAnyH_done (by kernel_rfl) ?_ _
  go_wp2_with fail
  refine (HAct.out w3 (objLn.below H.out HB3.out) (spans_below HS.out HB3.out)).mono ?_
  rintro e w8 ⟨rfl, ht⟩
  obtain ⟨O8, F8, h8, hst⟩ := ht
  obtain ⟨g, r, Rl, Rr, hA⟩ := h8
  have z2 := hA.box.c 2 rfl
  have z3 := hA.box.c 3 rfl
  have z4 := hA.box.c 4 rfl
  have y2 := hA.box.free 2
  have y3 := hA.box.free 3
  have y4 := hA.box.free 4
  have hto := hA.last_to s'.last
  have HT := Lib.hid (((StepF.below O F HB3.out).trans hst).tom hto)
  clear hA hst hto HAct q3 q4 hrun hx0
  go_wp2_with fail
  go_ret
  exact ⟨rfl, HT.out⟩
set_option maxHeartbeats 2000000 in
theorem key_miss (h : LineL w O F b s) (k : Int) (t : List UInt8) (hn : k ≠ 1 ∧ k ≠ 26 ∧ k ≠ 3 ∧ k ≠ 4 ∧ k ≠ 24 ∧ k ≠ 5 ∧ k ≠ 6 ∧ k ≠ 7 ∧ k ≠ 8 ∧ k ≠ 9 ∧ k ≠ 10 ∧ k ≠ 11 ∧ k ≠ 14 ∧ k ≠ 12 ∧ k ≠ 13 ∧ k ≠ 15 ∧ k ≠ 16 ∧ k ≠ 17 ∧ k ≠ 18) :
    Calls Tryd.prog 10 #[.pointer (some ⟨b, 0, none⟩), .agg #[.int .i64 k, .string (bs t)]] w fun e w' => e = .returned (.bool false) ∧ ToLn w O F w' b s := by
  obtain ⟨W2, hW2, hB2, hx2⟩ := boxK w k (bs t)
  have HX2 := Lib.hid hx2
  have HB2 := Lib.hid hB2
  have H := Lib.hid h
  have HN := Lib.hid hn
  have hx0 := hx2.c0
  clear h hB2 hx2 hn
  go_enter Tryd.func10, Tryd.ntmps10
  go_upto_region 1 with fail
  refine wp_region_held_drew (S := (fun w' => w'.cell? ⟨w.heap.size, 0, none⟩ = some (.int .i64 k))) (by kernel_rfl) hx0 (fun hHeld => ?_)
  refine wpAnyH_take (i := 1) (oi := ⟨some 9, _, _, _, _, _⟩) (v := ?_) rfl (by kernel_rfl) (by kernel_rfl) (by kernel_rfl) (fun _ _ _ h => h) (Or.inl ⟨by kernel_rfl, ?hy1⟩) (by assumption) ?_
  case hy1 => (intro w' hSw; (try dsimp only at hSw); go_simp; try with_reducible rfl)
  simp only [Act.put, List.setIfInBounds_toArray, List.set_cons_zero, List.set_cons_succ]
  refine wpAnyH_take (i := 2) (oi := ⟨some 10, _, _, _, _, _⟩) (v := ?_) rfl (by kernel_rfl) (by kernel_rfl) (by kernel_rfl) (fun _ _ _ h => h) (Or.inl ⟨by kernel_rfl, ?hy2⟩) (by assumption) ?_
  case hy2 => (intro w' hSw; (try dsimp only at hSw); go_simp; try with_reducible rfl)
  simp only [Act.put, List.setIfInBounds_toArray, List.set_cons_zero, List.set_cons_succ]
  refine wpAnyH_ready (rs := [0]) (by kernel_rfl) (by simp) ?_
  refine AllReadyH.cons (o := ⟨some 8, _, _, _, _, _⟩) rfl (fun K hK => ?_) AllReadyH.nil
  (rw [if_pos (by kernel_rfl)])
  go_simp
  refine (acts_calls W2.drew).mono ?_
  rintro e w3 ⟨m, rfl, hm, hb3⟩
  have hrun := acts_none hm k HN.out
  have hb3' : Below W2.heap.size W2 w3 := (Below.refl _ W2).drew.trans hb3
  have x3 := HX2.out.below hb3'
  have q3 := x3.c0
  have q4 := x3.c1
  have HB3 := Lib.hid (HB2.out.trans (hb3'.mono HB2.out.size))
  clear hb3 hb3' hm x3
  refine hK.out _ _ q3 (fun hHeld => ?_)
  clear hK K
  refine wpAnyH_ready (rs := [3]) (by kernel_rfl) (by simp) ?_
  refine AllReadyH.cons (o := ⟨some 11, _, _, _, _, _⟩) rfl (fun K hK => ?_) AllReadyH.nil
  (rw [if_pos (by kernel_rfl)])
  go_simp
  refine hK.out _ _ q3 (fun hHeld => ?_)
  clear hK K
  refine wpAnyH_take (i := 4) (oi := ⟨some 7, _, _, _, _, _⟩) (v := ?_) rfl (by kernel_rfl) (by kernel_rfl) (by kernel_rfl) (fun _ _ _ h => h) (Or.inl ⟨by kernel_rfl, ?hy4⟩) (by assumption) ?_
  case hy4 => (intro w' hSw; (try dsimp only at hSw); go_simp; try with_reducible rfl)
  simp only [Act.put, List.setIfInBounds_toArray, List.set_cons_zero, List.set_cons_succ]
  refine wpAnyH_take (i := 5) (oi := ⟨some 12, _, _, _, _, _⟩) (v := ?_) rfl (by kernel_rfl) (by kernel_rfl) (by kernel_rfl) (fun _ _ _ h => h) (Or.inl ⟨by kernel_rfl, ?hy5⟩) (by assumption) ?_
  case hy5 => (intro w' hSw; (try dsimp only at hSw); go_simp; try with_reducible rfl)
  simp only [Act.put, List.setIfInBounds_toArray, List.set_cons_zero, List.set_cons_succ]
  refine wpAnyH_take (i := 6) (oi := ⟨some 13, _, _, _, _, _⟩) (v := ?_) rfl (by kernel_rfl) (by kernel_rfl) (by kernel_rfl) (fun _ _ _ h => h) (Or.inl ⟨by kernel_rfl, ?hy6⟩) (by assumption) ?_
  case hy6 => (intro w' hSw; (try dsimp only at hSw); go_simp; try with_reducible rfl)
  simp only [Act.put, List.setIfInBounds_toArray, List.set_cons_zero, List.set_cons_succ]
  refine wpAnyH_take (i := 7) (oi := ⟨some 5, _, _, _, _, _⟩) (v := ?_) rfl (by kernel_rfl) (by kernel_rfl) (by kernel_rfl) (fun _ _ _ h => h) (Or.inl ⟨by kernel_rfl, ?hy7⟩) (by assumption) ?_
  case hy7 => (intro w' hSw; (try dsimp only at hSw); go_simp; try with_reducible rfl)
  simp only [Act.put, List.setIfInBounds_toArray, List.set_cons_zero, List.set_cons_succ]
  refine wpAnyH_take (i := 8) (oi := ⟨some 6, _, _, _, _, _⟩) (v := ?_) rfl (by kernel_rfl) (by kernel_rfl) (by kernel_rfl) (fun _ _ _ h => h) (Or.inl ⟨by kernel_rfl, ?hy8⟩) (by assumption) ?_
  case hy8 => (intro w' hSw; (try dsimp only at hSw); go_simp; try with_reducible rfl)
  simp only [Act.put, List.setIfInBounds_toArray, List.set_cons_zero, List.set_cons_succ]
  refine wpAnyH_done (by kernel_rfl) ?_ _
  go_wp2_with fail
  go_ret
  exact ⟨rfl, ToF.of_below objLn H.out HB3.out⟩
set_option maxHeartbeats 4000000 in
theorem key_callsL (h : LineL w O F b s) (hsp : Spans w) (k : Int) (t : List UInt8) (ht : t.length ≤ 100000) (hB : SmR s.ring 1000000) :
    Calls Tryd.prog 10 #[.pointer (some ⟨b, 0, none⟩), .agg #[.int .i64 k, .string (bs t)]] w fun e w' => e = .returned (.bool (LN.known k)) ∧ ToLn w O F w' b (s.key k t) := by
  by_cases h0 : k = 1
  · subst h0
    refine key_hit w O F b s h hsp 1 t 40 0 (s.key 1 t) rfl (enters_of Tryd.func40 (by kernel_rfl) rfl) (fun W h' hS => ?_)
    have := act_sign W O F b s 1 t ht h' hS
    show Calls _ _ _ W fun e w' => e = .returned (dV (s.ins t (if wordT t then 1 else 0)).last) ∧ ToLn W O F w' b ⟨(s.ins t (if wordT t then 1 else 0)).log, (s.ins t (if wordT t then 1 else 0)).ring, s.last⟩
    unfold LN.ins
    by_cases hf : fits s.buf (plainL t)
    · rw [if_pos hf] at this ⊢; exact this
    · rw [if_neg hf] at this ⊢; exact this
  by_cases h1 : k = 26
  · subst h1
    refine key_hit w O F b s h hsp 26 t 41 1 (s.key 26 t) rfl (enters_of Tryd.func41 (by kernel_rfl) rfl) (fun W h' hS => ?_)
    have := act_paste W O F b s 26 t ht h' hS
    show Calls _ _ _ W fun e w' => e = .returned (dV (s.ins t 0).last) ∧ ToLn W O F w' b ⟨(s.ins t 0).log, (s.ins t 0).ring, s.last⟩
    unfold LN.ins
    by_cases hf : fits s.buf (plainL t)
    · rw [if_pos hf] at this ⊢; exact this
    · rw [if_neg hf] at this ⊢; exact this
  by_cases h2 : k = 3
  · subst h2
    refine key_hit w O F b s h hsp 3 t 42 2 (s.key 3 t) rfl (enters_of Tryd.func42 (by kernel_rfl) rfl) (fun W h' hS => ?_)
    have := act_backspace W O F b s 3 (bs t) h' hS
    exact this
  by_cases h3 : k = 4
  · subst h3
    refine key_hit w O F b s h hsp 4 t 43 3 (s.key 4 t) rfl (enters_of Tryd.func43 (by kernel_rfl) rfl) (fun W h' hS => ?_)
    have := act_del W O F b s 4 (bs t) h' hS
    exact this
  by_cases h4 : k = 24
  · subst h4
    refine key_hit w O F b s h hsp 24 t 44 4 (s.key 24 t) rfl (enters_of Tryd.func44 (by kernel_rfl) rfl) (fun W h' hS => ?_)
    have := act_swap W O F b s 24 (bs t) h' hS
    show Calls _ _ _ W fun e w' => e = .returned (dV s.swap.last) ∧ ToLn W O F w' b ⟨s.swap.log, s.swap.ring, s.last⟩
    unfold LN.swap
    by_cases hf : (swapR s.buf.1 s.buf.2).2.2 = true
    · rw [if_pos hf] at this ⊢; exact this
    · rw [if_neg hf] at this ⊢; exact this
  by_cases h5 : k = 5
  · subst h5
    refine key_hit w O F b s h hsp 5 t 45 5 (s.key 5 t) rfl (enters_of Tryd.func45 (by kernel_rfl) rfl) (fun W h' hS => ?_)
    have := act_left W O F b s 5 (bs t) h' hS
    exact this
  by_cases h6 : k = 6
  · subst h6
    refine key_hit w O F b s h hsp 6 t 46 6 (s.key 6 t) rfl (enters_of Tryd.func46 (by kernel_rfl) rfl) (fun W h' hS => ?_)
    have := act_right W O F b s 6 (bs t) h' hS
    exact this
  by_cases h7 : k = 7
  · subst h7
    refine key_hit w O F b s h hsp 7 t 47 7 (s.key 7 t) rfl (enters_of Tryd.func47 (by kernel_rfl) rfl) (fun W h' hS => ?_)
    have := act_home W O F b s 7 (bs t) h' hS
    exact this
  by_cases h8 : k = 8
  · subst h8
    refine key_hit w O F b s h hsp 8 t 48 8 (s.key 8 t) rfl (enters_of Tryd.func48 (by kernel_rfl) rfl) (fun W h' hS => ?_)
    have := act_end W O F b s 8 (bs t) h' hS
    exact this
  by_cases h9 : k = 9
  · subst h9
    refine key_hit w O F b s h hsp 9 t 49 9 (s.key 9 t) rfl (enters_of Tryd.func49 (by kernel_rfl) rfl) (fun W h' hS => ?_)
    have := act_wordLeft W O F b s 9 (bs t) h' hS
    exact this
  by_cases h10 : k = 10
  · subst h10
    refine key_hit w O F b s h hsp 10 t 50 10 (s.key 10 t) rfl (enters_of Tryd.func50 (by kernel_rfl) rfl) (fun W h' hS => ?_)
    have := act_wordRight W O F b s 10 (bs t) h' hS
    exact this
  by_cases h11 : k = 11
  · subst h11
    refine key_hit w O F b s h hsp 11 t 51 11 (s.key 11 t) rfl (enters_of Tryd.func51 (by kernel_rfl) rfl) (fun W h' hS => ?_)
    have := act_killEnd W O F b s 11 (bs t) h' hS hB
    exact this
  by_cases h12 : k = 14
  · subst h12
    refine key_hit w O F b s h hsp 14 t 52 12 (s.key 14 t) rfl (enters_of Tryd.func52 (by kernel_rfl) rfl) (fun W h' hS => ?_)
    have := act_killWord W O F b s 14 (bs t) h' hS hB
    exact this
  by_cases h13 : k = 12
  · subst h13
    refine key_hit w O F b s h hsp 12 t 53 13 (s.key 12 t) rfl (enters_of Tryd.func53 (by kernel_rfl) rfl) (fun W h' hS => ?_)
    have := act_killStart W O F b s 12 (bs t) h' hS hB
    exact this
  by_cases h14 : k = 13
  · subst h14
    refine key_hit w O F b s h hsp 13 t 54 14 (s.key 13 t) rfl (enters_of Tryd.func54 (by kernel_rfl) rfl) (fun W h' hS => ?_)
    have := act_killBack W O F b s 13 (bs t) h' hS hB
    exact this
  by_cases h15 : k = 15
  · subst h15
    refine key_hit w O F b s h hsp 15 t 55 15 (s.key 15 t) rfl (enters_of Tryd.func55 (by kernel_rfl) rfl) (fun W h' hS => ?_)
    have := act_yank W O F b s 15 (bs t) h' hS hB
    exact this
  by_cases h16 : k = 16
  · subst h16
    refine key_hit w O F b s h hsp 16 t 56 16 (s.key 16 t) rfl (enters_of Tryd.func56 (by kernel_rfl) rfl) (fun W h' hS => ?_)
    have := act_pop W O F b s 16 (bs t) h' hS hB
    exact this
  by_cases h17 : k = 17
  · subst h17
    refine key_hit w O F b s h hsp 17 t 57 17 (s.key 17 t) rfl (enters_of Tryd.func57 (by kernel_rfl) rfl) (fun W h' hS => ?_)
    have := act_undo W O F b s 17 (bs t) h' hS
    exact this
  by_cases h18 : k = 18
  · subst h18
    refine key_hit w O F b s h hsp 18 t 58 18 (s.key 18 t) rfl (enters_of Tryd.func58 (by kernel_rfl) rfl) (fun W h' hS => ?_)
    have := act_redo W O F b s 18 (bs t) h' hS
    exact this
  have hk : LN.known k = false := decide_eq_false (by omega)
  have hs : s.key k t = s := by
    unfold LN.key
    simp only [h0, h1, h2, h3, h4, h5, h6, h7, h8, h9, h10, h11, h12, h13, h14, h15, h16, h17, h18, if_false]
  rw [hk, hs]
  exact key_miss w O F b s h k t ⟨h0, h1, h2, h3, h4, h5, h6, h7, h8, h9, h10, h11, h12, h13, h14, h15, h16, h17, h18⟩
end
end
section
open Go Go.RowKit Go.Shelf
attribute [local go_sem] Oper.semAt_some
set_option maxRecDepth 100000
set_option maxHeartbeats 4000000 in
theorem kills_callsL (w : World) (O F : Nat → Prop) (b : Nat) (s : LN) (h : LineL w O F b s) (_ : Spans w) :
    Calls Tryd.prog 12 #[.pointer (some ⟨b, 0, none⟩)] w fun e w' => ∃ A c, e = .returned (.slice A s.ring.l.length c) ∧ RdV Value.string w' A s.ring.l ∧ Below w.heap.size w w' := by
  obtain ⟨i0, hi, hz0, hz1, hz2⟩ := info_parts infoS
  obtain ⟨g, r, Rl, Rr, hA⟩ := h
  have hrl := fun k hk => hA.ring.lt k hk
  have c1 := ((hA.box.alloc (.cells #[.slice none 0 0] 33))).c 1 rfl
  have HR := Lib.hid hA.ring
  have hlen := hA.ring.ok.len
  have hle := hA.ring.ok.le
  clear hA
  generalize s.ring = q at *
  refine (callsIn_wide (n := 4)).1 ?_
  refine callsIn_of_wp_marks Tryd.func12 rfl trivial ?_ rfl
  simp only [Tryd.ntmps12, List.size_toArray, List.length_cons, List.length_nil, Nat.reduceAdd, Nat.reduceSub, Array.replicate_succ, Array.replicate_zero, List.push_toArray, List.append_toArray, List.nil_append, List.cons_append]
  gi_wp2_with (refine ⟨trivial, ?_⟩; gi_at_call 25; refine (all_inS _ _ _).mono ?_; rintro e w' ⟨rfl, rfl⟩)
  have bO := Boxed.new w 33 (.slice none 0 0)
  have bN := Boxed.new (w.alloc (.cells #[.slice none 0 0] 33)) 46 (.pointer (some ⟨r, 0, none⟩))
  rw [World.size_alloc] at bN
  have hB0 : Below w.heap.size w ((w.alloc (.cells #[.slice none 0 0] 33)).alloc (.cells #[.pointer (some ⟨r, 0, none⟩)] 46)) := ((Below.refl _ w).alloc (Nat.le_refl _) _).alloc (by simp) _
  refine wpIn_rangeFunc_ownG rfl (by omega) (gf := 61) (lb := #[.pointer (some ⟨w.heap.size + 1, 0, none⟩)]) rfl trivial (enters_of Tryd.func61 (by kernel_rfl) rfl)
    (all_stopsS 3 (by omega) (w.heap.size + 1) w.heap.size _ Rr r q (HR.out.below hB0) hrl bN) belowK_t (belowK_b (by simp; omega)) (Below.refl _ _) (fun _ => rfl)
    (fun pre W => (∃ v, Boxed W w.heap.size 33 v ∧ W.ownsRow (w.heap.size + 2) 9 1 v pre.length (cellsS ((valsL pre).map (·.2))) ∧ True) ∧ (Below w.heap.size w W ∧ w.heap.size + 2 ≤ W.heap.size))
    (fun _ _ _ => False)
    (OwnFrom.and (Own.from (holdsRow_own (w.heap.size + 2) w.heap.size 33 9 1 (fun pre : List (OfL q.l) => pre.length) (fun pre => cellsS ((valsL pre).map (·.2))) (fun _ _ => True)) _) (OwnFrom.and (ownFrom_below (Nat.le_refl _) (by simp; omega)) (ownFrom_size _ _)))
    (fun _ _ _ _ _ hs _ _ => hs)
    ⟨⟨_, bO.alloc _, World.ownsRow_nil _ _ _ _, trivial⟩, hB0, by simp⟩
    (fun x => { tmps := #[.pointer (some ⟨b, 0, none⟩), undef, .slice none 0 0, .pointer (some ⟨w.heap.size, 0, none⟩), undef, .string x.1.2, .pointer (some ⟨b, 0, none⟩), .pointer (some ⟨b, 0, none⟩), .pointer (some ⟨b, 1, none⟩), .pointer (some ⟨r, 0, none⟩), .func (.func 61) #[] #[.pointer (some ⟨w.heap.size + 1, 0, none⟩)], .int .i64 (x.1.1 : Int), .string x.1.2, undef, undef, undef, undef, undef], defers := [] }) ?assign ?body ?done ?stop
  case assign =>
    intro l x W K hK
    gi_wp2
    exact hK
  case body =>
    rintro l pre x W ⟨⟨v, hv, hrow, _⟩, hB, hsz⟩ hlt
    have hc := hv.cell
    gi_wp2_with (gi_at_builtin; refine wpListIn_append_own _ rfl _ _ 33 rfl (w.heap.size + 2) 9 i0 (.string ⟨#[]⟩) 1 16 Tryd.underlying33 hi hz0 hz1 hz2 rfl (by decide) _ _ _ rfl (hrow.alloc _) ⟨W.heap.size, 0, none⟩ 1 1 [.string x.1.2] rfl rfl (cell_one_new _ _ _) (by simp [Value.oneCell']) (by unfold maxLen; omega) (by omega) (by simp; omega) ?_; intro v' w1 hown' hgrow _; obtain ⟨g', cap', rfl⟩ := ownsRow_succ hown'; obtain ⟨hv1, hv2, hr2, hk2, hb2, hs2⟩ := box_appended hv hrow (by omega) hsz hown' hgrow; have hc1 := hv1.cell; have hf1 := hv1.frozen)
    refine ⟨hk2.from _, hb2 _ (Nat.le_refl _), ⟨_, hv2, ?_, trivial⟩, hB.trans (hb2 _ (Nat.le_refl _)), Nat.le_trans hsz hk2.size⟩
    rw [valsL_snoc, List.map_append, List.map_cons, List.map_nil, cellsS_snoc]
    simpa using hr2
  case done =>
    rintro D ys W hD hys ⟨⟨v, hv, hrow, _⟩, hB, hsz⟩ hK
    have hc := hv.cell
    rw [← valsL_length, hys, told_snd, told_length] at hrow
    gi_wp2
    refine ⟨by simp, .inl ⟨_, _, rfl, run_takeDeferred hK, ?_⟩⟩
    have h2 := ownsRow_putObj hrow (.deferred none) hK rfl
    obtain ⟨A, c, rfl⟩ := own_form h2
    refine ⟨_, results_tmp rfl _ _ _, A, c, rfl, (rdV_of_own (V := Value.string) h2).1, hB.trans (belowK_b (w := w) (Nat.le_refl _) W D _ _ (by simp at hD; omega) hK rfl rfl)⟩
  case stop =>
    rintro D c pre W _ _ h _
    exact h.elim
end
end Go.Proofs.YtoaponaljkhlfaaDoor
