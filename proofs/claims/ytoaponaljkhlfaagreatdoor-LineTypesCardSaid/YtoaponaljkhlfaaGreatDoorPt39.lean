/-
  Layer 7 and what it stands on, part 39 (LnR LnS LnDD LAliveD RMakes).
-/
import Derived.Test.YtoaponaljkhlfaaGreatDoorPt27
import Derived.Test.YtoaponaljkhlfaaGreatDoorPt30
import Derived.Test.YtoaponaljkhlfaaGreatDoorPt38
import Derived.Deep.RegionHeld3
namespace Go.Proofs.YtoaponaljkhlfaaGreatDoor
section
open Go Go.RowKit
set_option maxRecDepth 100000
theorem empty_callsL (w : World) : Calls Tryz.prog 24 #[] w fun e w' => ∃ g, e = .returned (.pointer (some ⟨g, 0, none⟩)) ∧ InL LogB w w' g (LS.new ([], 0) 32) := by
  go_enter Tryz.func24, Tryz.ntmps24
  go_wp2_with fail
  refine (new_callsB ([], 0) 32 w).mono ?_
  rintro e w2 ⟨g, rfl, hi⟩
  go_wp2
  go_ret
  exact ⟨g, rfl, hi⟩
theorem new_callsL (w : World) (hsp : Spans w) :
    Calls Tryz.prog 9 #[] w fun e w' => ∃ b, e = .returned (.pointer (some ⟨b, 0, none⟩)) ∧ InLn w w' b LN.new := by
  have HS := Lib.hid (spans_lt hsp)
  clear hsp
  go_enter Tryz.func9, Tryz.ntmps9
  go_wp2_with fail
  refine (empty_callsL w).mono ?_
  rintro e w2 ⟨g, rfl, hi⟩
  have HI := Lib.hid hi
  clear hi
  go_wp2_with fail
  refine (new_callsS 8 w2).mono ?_
  rintro e w3 ⟨rfl, hw3⟩
  have hr := newRingS 8 w2
  have hb3 : Below w2.heap.size w2 w3 := by rw [← hw3]; exact (Below.refl _ w2).alloc (Nat.le_refl _) _
  rw [hw3] at hr
  have HR := Lib.hid hr
  have HB3 := Lib.hid hb3
  clear hr hb3 hw3
  go_wp2
  go_ret
  exact ⟨_, rfl, line_new HI.out HB3.out HR.out (fun k hk => Nat.le_of_eq hk.symm) ((Below.refl _ w3).alloc (Nat.le_refl _) _) (Nat.le_refl _) (BxA.new w3 62 (lnC g w2.heap.size .none)) LN.Ok.new HS.out⟩
set_option maxHeartbeats 2000000 in
theorem copy_callsL (w : World) (O F : Nat → Prop) (b : Nat) (s : LN) (h : LineL w O F b s) (_ : Spans w) :
    Calls Tryz.prog 21 #[.pointer (some ⟨b, 0, none⟩)] w fun e w' => ∃ b', e = .returned (.pointer (some ⟨b', 0, none⟩)) ∧ CopF LineL w F w' b' s := by
  obtain ⟨g, r, Rl, Rr, hA⟩ := h
  have c0 := hA.box.c 0 rfl
  have c1 := hA.box.c 1 rfl
  have c2 := hA.box.c 2 rfl
  have c3 := hA.box.c 3 rfl
  have c4 := hA.box.c 4 rfl
  have HSS : Hid (∀ W, Below w.heap.size w W → W.cell? ⟨b, 0, none⟩ = some (.pointer (some ⟨g, 0, none⟩)) ∧ W.cell? ⟨b, 1, none⟩ = some (.pointer (some ⟨r, 0, none⟩)) ∧ W.cell? ⟨b, 2, none⟩ = some (.int .i64 (kdL s.last)) ∧ W.cell? ⟨b, 3, none⟩ = some (.int .i64 (frL s.last)) ∧ W.cell? ⟨b, 4, none⟩ = some (.int .i64 (toL s.last))) := Lib.hid (fun W hW => ⟨(hA.box.below hW).c 0 rfl, (hA.box.below hW).c 1 rfl, (hA.box.below hW).c 2 rfl, (hA.box.below hW).c 3 rfl, (hA.box.below hW).c 4 rfl⟩)
  have HA := Lib.hid (hA.below (Below.refl _ w).drew)
  have HB : Hid (Below w.heap.size w w.drew) := Lib.hid (Below.refl _ w).drew
  have HA0 := Lib.hid hA
  clear hA
  go_enter Tryz.func21, Tryz.ntmps21
  go_upto_region 1 with fail
  refine wp_region_held_drew (S := (fun w' => w'.cell? ⟨b, 0, none⟩ = some (.pointer (some ⟨g, 0, none⟩)) ∧ w'.cell? ⟨b, 1, none⟩ = some (.pointer (some ⟨r, 0, none⟩)) ∧ w'.cell? ⟨b, 2, none⟩ = some (.int .i64 (kdL s.last)) ∧ w'.cell? ⟨b, 3, none⟩ = some (.int .i64 (frL s.last)) ∧ w'.cell? ⟨b, 4, none⟩ = some (.int .i64 (toL s.last)))) (by kernel_rfl) ⟨c0, c1, c2, c3, c4⟩ (fun hHeld => ?_)
  refine wpAnyH_take (i := 0) (oi := ⟨some 3, _, _, _, _, _⟩) (v := ?_) rfl (by kernel_rfl) (by kernel_rfl) (by kernel_rfl) (fun _ _ _ h => h) (Or.inl ⟨by kernel_rfl, ?hy0⟩) (by assumption) ?_
  case hy0 => (intro w' hSw; (try dsimp only at hSw); go_simp; try with_reducible rfl)
  simp only [Act.put, List.setIfInBounds_toArray, List.set_cons_zero, List.set_cons_succ]
  refine wpAnyH_take (i := 1) (oi := ⟨some 4, _, _, _, _, _⟩) (v := ?_) rfl (by kernel_rfl) (by kernel_rfl) (by kernel_rfl) (fun _ _ _ h => h) (Or.inl ⟨by kernel_rfl, ?hy1⟩) (by assumption) ?_
  case hy1 => (intro w' hSw; (try dsimp only at hSw); go_simp; try with_reducible rfl)
  simp only [Act.put, List.setIfInBounds_toArray, List.set_cons_zero, List.set_cons_succ]
  refine wpAnyH_take (i := 2) (oi := ⟨some 5, _, _, _, _, _⟩) (v := ?_) rfl (by kernel_rfl) (by kernel_rfl) (by kernel_rfl) (fun _ _ _ h => h) (Or.inl ⟨by kernel_rfl, ?hy2⟩) (by assumption) ?_
  case hy2 => (intro w' hSw; (try dsimp only at hSw); go_simp; try with_reducible rfl)
  simp only [Act.put, List.setIfInBounds_toArray, List.set_cons_zero, List.set_cons_succ]
  refine wpAnyH_take (i := 3) (oi := ⟨some 6, _, _, _, _, _⟩) (v := ?_) rfl (by kernel_rfl) (by kernel_rfl) (by kernel_rfl) (fun _ _ _ h => h) (Or.inl ⟨by kernel_rfl, ?hy3⟩) (by assumption) ?_
  case hy3 => (intro w' hSw; (try dsimp only at hSw); go_simp; try with_reducible rfl)
  simp only [Act.put, List.setIfInBounds_toArray, List.set_cons_zero, List.set_cons_succ]
  refine wpAnyH_take (i := 5) (oi := ⟨some 8, _, _, _, _, _⟩) (v := ?_) rfl (by kernel_rfl) (by kernel_rfl) (by kernel_rfl) (fun _ _ _ h => h) (Or.inl ⟨by kernel_rfl, ?hy5⟩) (by assumption) ?_
  case hy5 => (intro w' hSw; (try dsimp only at hSw); go_simp; try with_reducible rfl)
  simp only [Act.put, List.setIfInBounds_toArray, List.set_cons_zero, List.set_cons_succ]
  refine wpAnyH_take (i := 6) (oi := ⟨some 9, _, _, _, _, _⟩) (v := ?_) rfl (by kernel_rfl) (by kernel_rfl) (by kernel_rfl) (fun _ _ _ h => h) (Or.inl ⟨by kernel_rfl, ?hy6⟩) (by assumption) ?_
  case hy6 => (intro w' hSw; (try dsimp only at hSw); go_simp; try with_reducible rfl)
  simp only [Act.put, List.setIfInBounds_toArray, List.set_cons_zero, List.set_cons_succ]
  refine wpAnyH_take (i := 7) (oi := ⟨some 10, _, _, _, _, _⟩) (v := ?_) rfl (by kernel_rfl) (by kernel_rfl) (by kernel_rfl) (fun _ _ _ h => h) (Or.inl ⟨by kernel_rfl, ?hy7⟩) (by assumption) ?_
  case hy7 => (intro w' hSw; (try dsimp only at hSw); go_simp; try with_reducible rfl)
  simp only [Act.put, List.setIfInBounds_toArray, List.set_cons_zero, List.set_cons_succ]
  refine wpAnyH_take (i := 8) (oi := ⟨some 11, _, _, _, _, _⟩) (v := ?_) rfl (by kernel_rfl) (by kernel_rfl) (by kernel_rfl) (fun _ _ _ h => h) (Or.inl ⟨by kernel_rfl, ?hy8⟩) (by assumption) ?_
  case hy8 => (intro w' hSw; (try dsimp only at hSw); go_simp; try with_reducible rfl)
  simp only [Act.put, List.setIfInBounds_toArray, List.set_cons_zero, List.set_cons_succ]
  refine wpAnyH_take (i := 10) (oi := ⟨some 13, _, _, _, _, _⟩) (v := ?_) rfl (by kernel_rfl) (by kernel_rfl) (by kernel_rfl) (fun _ _ _ h => h) (Or.inl ⟨by kernel_rfl, ?hy10⟩) (by assumption) ?_
  case hy10 => (intro w' hSw; (try dsimp only at hSw); go_simp; try with_reducible rfl)
  simp only [Act.put, List.setIfInBounds_toArray, List.set_cons_zero, List.set_cons_succ]
  refine wpAnyH_take (i := 11) (oi := ⟨some 14, _, _, _, _, _⟩) (v := ?_) rfl (by kernel_rfl) (by kernel_rfl) (by kernel_rfl) (fun _ _ _ h => h) (Or.inl ⟨by kernel_rfl, ?hy11⟩) (by assumption) ?_
  case hy11 => (intro w' hSw; (try dsimp only at hSw); go_simp; try with_reducible rfl)
  simp only [Act.put, List.setIfInBounds_toArray, List.set_cons_zero, List.set_cons_succ]
  refine wpAnyH_take (i := 12) (oi := ⟨some 15, _, _, _, _, _⟩) (v := ?_) rfl (by kernel_rfl) (by kernel_rfl) (by kernel_rfl) (fun _ _ _ h => h) (Or.inl ⟨by kernel_rfl, ?hy12⟩) (by assumption) ?_
  case hy12 => (intro w' hSw; (try dsimp only at hSw); go_simp; try with_reducible rfl)
  simp only [Act.put, List.setIfInBounds_toArray, List.set_cons_zero, List.set_cons_succ]
  refine wpAnyH_take (i := 13) (oi := ⟨some 16, _, _, _, _, _⟩) (v := ?_) rfl (by kernel_rfl) (by kernel_rfl) (by kernel_rfl) (fun _ _ _ h => h) (Or.inl ⟨by kernel_rfl, ?hy13⟩) (by assumption) ?_
  case hy13 => (intro w' hSw; (try dsimp only at hSw); go_simp; try with_reducible rfl)
  simp only [Act.put, List.setIfInBounds_toArray, List.set_cons_zero, List.set_cons_succ]
  refine wpAnyH_ready (rs := [4]) (by kernel_rfl) (by simp) ?_
  refine AllReadyH.cons (o := ⟨some 7, _, _, _, _, _⟩) rfl (fun K hK => ?_) AllReadyH.nil
  (rw [if_pos (by kernel_rfl)])
  go_simp
  refine (copy_callsBB w.drew Rl g s.log HA.out.log).mono ?_
  rintro e w3 ⟨g', rfl, hc⟩
  have hb3 := HB.out.trans (CopL.bel hc)
  have q3 := HSS.out w3 hb3
  have HC := Lib.hid hc
  have HB3 := Lib.hid hb3
  clear hb3 hc
  refine hK.out _ _ q3 (fun hHeld => ?_)
  clear hK K
  refine wpAnyH_ready (rs := [9]) (by kernel_rfl) (by simp) ?_
  refine AllReadyH.cons (o := ⟨some 12, _, _, _, _, _⟩) rfl (fun K hK => ?_) AllReadyH.nil
  (rw [if_pos (by kernel_rfl)])
  go_simp
  refine (copy_callsS w3 Rr r s.ring (HA0.out.ring.below HB3.out)).mono ?_
  rintro e w4 ⟨rfl, hb4, R', hr, hr2⟩
  have hb4' := HB3.out.trans (hb4.mono HB3.out.size)
  have q4 := HSS.out w4 hb4'
  have hbx := BxA.new w4 62 (lnC g' w3.heap.size s.last)
  have h3 : Below w4.heap.size w4 (w4.alloc (.cells #[.pointer (some ⟨g', 0, none⟩), .pointer (some ⟨w3.heap.size, 0, none⟩), .int .i64 (kdL s.last), .int .i64 (frL s.last), .int .i64 (toL s.last)] 62)) := (Below.refl _ w4).alloc (Nat.le_refl _) _
  have q5 := HSS.out _ (hb4'.trans (h3.mono hb4'.size))
  have hcop := HA.out.copied HC.out hb4 hr hr2 h3 (Nat.le_refl _) hbx
  have HCop := Lib.hid hcop
  clear hb4 hb4' hr hr2 hbx h3 hcop
  refine hK.out _ _ q4 (fun hHeld => ?_)
  clear hK K
  refine wpAnyH_take (i := 14) (oi := ⟨some 17, _, _, _, _, _⟩) (v := ?_) rfl (by kernel_rfl) (by kernel_rfl) (by kernel_rfl) (fun _ _ _ h => h) (Or.inl ⟨by kernel_rfl, ?hy14⟩) (by assumption) ?_
  case hy14 => (intro w' hSw; (try dsimp only at hSw); go_simp; try with_reducible rfl)
  simp only [Act.put, List.setIfInBounds_toArray, List.set_cons_zero, List.set_cons_succ]
  refine wpAnyH_ready (rs := [15]) (by kernel_rfl) (by simp) ?_
  refine AllReadyH.cons (o := ⟨some 18, _, _, _, _, _⟩) rfl (fun K hK => ?_) AllReadyH.nil
  (rw [if_pos (by kernel_rfl)])
  go_simp
  refine hK.out _ _ q5 (fun hHeld => ?_)
  clear hK K
  refine wpAnyH_take (i := 16) (oi := ⟨some 2, _, _, _, _, _⟩) (v := ?_) rfl (by kernel_rfl) (by kernel_rfl) (by kernel_rfl) (fun _ _ _ h => h) (Or.inl ⟨by kernel_rfl, ?hy16⟩) (by assumption) ?_
  case hy16 => (intro w' hSw; (try dsimp only at hSw); go_simp; try with_reducible rfl)
  simp only [Act.put, List.setIfInBounds_toArray, List.set_cons_zero, List.set_cons_succ]
  refine wpAnyH_done (by kernel_rfl) ?_ _
  go_wp2_with fail
  go_ret
  obtain ⟨O', F', a1, a2, a3, a4⟩ := HCop.out
  exact ⟨_, rfl, O', F', a1, fun k hk => Nat.le_trans HB.out.size (a2 k hk), fun k hk => (a3 k hk).imp id (fun h => Nat.le_trans HB.out.size h), HB.out.trans a4⟩
end
section
open Go Go.RowKit
set_option maxRecDepth 100000
theorem mA_end (t : List UInt8) : mA t 600 = (mS t).length := backL_all _ _ (by have := mS_len t; omega)
theorem wr_brk (l : LS Bf) (x : Bf) : wrG l.brk x 0 = wrG l x 0 := by
  unfold wrG
  rw [if_pos rfl, if_pos rfl]
  unfold LS.does
  rw [show l.brk.now = l.now from rfl]
  split
  · rfl
  · unfold LS.put LS.brk
    simp
section
variable (w : World) (O F : Nat → Prop) (b : Nat) (s : LN)
set_option maxHeartbeats 2000000 in
theorem set_callsL (h : LineL w O F b s) (hsp : Spans w) (t : List UInt8) (ht : t.length ≤ 100000) (_ : SmR s.ring 1000000) :
    Calls Tryz.prog 27 #[.pointer (some ⟨b, 0, none⟩), .string (bs t)] w fun e w' => e = .returned (.tuple #[]) ∧ ToLn w O F w' b (s.set t) := by
  have HM := Lib.hid (make_calls t 600 (Nat.le_trans ht (by decide)) w hsp)
  rw [mA_end] at HM
  have H := Lib.hid h
  have HR : Hid (Rt (mS t) (mS t).length) := Lib.hid ⟨mS_P t, mS_len t, isB_all _⟩
  show Calls _ _ _ w fun e w' => e = .returned (.tuple #[]) ∧ ToLn w O F w' b ⟨wrG s.log (mS t, (mS t).length) 0, s.ring, .none⟩
  clear h hsp ht
  generalize mS t = m at *
  go_enter Tryz.func27, Tryz.ntmps27
  go_wp2_with fail
  refine HM.out.mono ?_
  rintro e w2 ⟨rfl, hb2⟩
  have HB2 := Lib.hid hb2
  clear hb2 HM
  go_wp2_with fail
  refine (write_callsL w2 O F b s (objLn.below H.out HB2.out) (m, m.length) HR.out).mono ?_
  rintro e w3 ⟨rfl, O3, F3, ⟨g, r, Rl, Rr, hA⟩, hst⟩
  have z2 := hA.box.c 2 rfl
  have z3 := hA.box.c 3 rfl
  have z4 := hA.box.c 4 rfl
  have y2 := hA.box.free 2
  have y3 := hA.box.free 3
  have y4 := hA.box.free 4
  have hto := hA.last_to .none
  have HT := Lib.hid (((StepF.below O F HB2.out).trans hst).tom hto)
  clear hA hst hto
  go_wp2_with fail
  go_end0
  exact ⟨rfl, HT.out⟩
set_option maxHeartbeats 2000000 in
theorem change_callsL (h : LineL w O F b s) (hsp : Spans w) (n : Int) (t : List UInt8) (ht : t.length ≤ 100000) (_ : SmR s.ring 1000000) :
    Calls Tryz.prog 23 #[.pointer (some ⟨b, 0, none⟩), .agg #[.string (bs t), .int .i64 n]] w fun e w' => e = .returned (.bool (decide ((mS t, mA t n) ≠ s.buf))) ∧ ToLn w O F w' b (s.change t n) := by
  obtain ⟨W1, hW1⟩ : ∃ W1, w.alloc (.cells #[.string (bs t), .int .i64 n] 43) = W1 := ⟨_, rfl⟩
  have k0 : Below w.heap.size w W1 := by rw [← hW1]; exact (Below.refl _ w).alloc (Nat.le_refl _) _
  have hx1 : Bx W1 w.heap.size 43 (.string (bs t)) (.int .i64 n) := by rw [← hW1]; exact Bx.new w 43 _ _
  obtain ⟨g, r, Rl, Rr, hA⟩ := objLn.below h k0
  have hbl := objLn.lt h b (.inl (objLn.ins h))
  have z2 := hA.box.c 2 rfl
  have z3 := hA.box.c 3 rfl
  have z4 := hA.box.c 4 rfl
  have y2 := hA.box.free 2
  have y3 := hA.box.free 3
  have y4 := hA.box.free 4
  have hto := hA.last_to .none
  have HSP := Lib.hid (spans_below hsp k0)
  have HNB := Lib.hid hA.sp.2
  have HT := Lib.hid ((StepF.below O F k0).tom hto)
  have ho : Only (fun k => k = b) W1 (((W1.setCell ⟨b, 2, none⟩ (.int .i64 (kdL .none))).setCell ⟨b, 3, none⟩ (.int .i64 (frL .none))).setCell ⟨b, 4, none⟩ (.int .i64 (toL .none))) := (((Only.refl (fun k => k = b) W1).set (p := ⟨b, 2, none⟩) (.inl rfl) _).set (p := ⟨b, 3, none⟩) (.inl rfl) _).set (p := ⟨b, 4, none⟩) (.inl rfl) _
  have x3 := hx1.keepO ho (fun (e : w.heap.size = b) => by omega)
  have hOb := (hA.hO b).2 (.inl rfl)
  have HSP3 := Lib.hid (spans_only (O := fun k => k = b) HSP.out ho (fun e => HNB.out (by rw [e]; exact hOb)))
  have HM := Lib.hid (fun W hS => make_calls t n (Nat.le_trans ht (by decide)) W hS)
  have HR : Hid (Rt (mS t) (mA t n)) := Lib.hid (make_rt t n)
  obtain ⟨dd, hdd⟩ : ∃ dd, decide ((mS t, mA t n) ≠ s.buf) = dd := ⟨_, rfl⟩
  rw [hdd]
  have Hdd := Lib.hid hdd
  clear hdd
  show Calls _ _ _ w fun e w' => e = .returned (.bool dd) ∧ ToLn w O F w' b ⟨wrG s.log (mS t, mA t n) 0, s.ring, .none⟩
  have u0 : (((W1.setCell ⟨b, 2, none⟩ (.int .i64 0)).setCell ⟨b, 3, none⟩ (.int .i64 0)).setCell ⟨b, 4, none⟩ (.int .i64 0)).cell? ⟨w.heap.size, 0, none⟩ = some (.string (bs t)) := x3.c0
  have u1 : (((W1.setCell ⟨b, 2, none⟩ (.int .i64 0)).setCell ⟨b, 3, none⟩ (.int .i64 0)).setCell ⟨b, 4, none⟩ (.int .i64 0)).cell? ⟨w.heap.size, 1, none⟩ = some (.int .i64 n) := x3.c1
  clear h hsp ht hA hto hx1 k0 hbl ho x3 hOb
  generalize mS t = m at *
  generalize mA t n = a at *
  go_enter Tryz.func23, Tryz.ntmps23
  go_wp2_with fail
  refine (HM.out _ HSP3.out).mono ?_
  rintro e w3 ⟨rfl, hb3⟩
  have HT3 := Lib.hid (HT.out.below objLn hb3)
  clear hb3 HM
  go_wp2_with fail
  obtain ⟨O3, F3, h3, hst⟩ := HT3.out
  refine (write_callsL w3 O3 F3 b _ h3 (m, a) HR.out).mono ?_
  rintro e w4 ⟨rfl, ht4⟩
  rw [show LN.buf ⟨s.log, s.ring, .none⟩ = s.buf from rfl, Hdd.out]
  have HT4 := Lib.hid (StepF.tom hst ht4)
  clear h3 hst ht4
  go_wp2_with fail
  go_ret
  exact ⟨rfl, HT4.out⟩
set_option maxHeartbeats 4000000 in
theorem add_callsL (h : LineL w O F b s) (hsp : Spans w) (t : List UInt8) (ht : t.length ≤ 100000) (_ : SmR s.ring 1000000) :
    Calls Tryz.prog 22 #[.pointer (some ⟨b, 0, none⟩), .string (bs t)] w fun e w' => e = .returned (.bool (s.canAdd t)) ∧ ToLn w O F w' b (s.add t) := by
  have hrt := (line_ok h).rt.1
  have hl6 : s.buf.1.length ≤ 137438953472 := Nat.le_trans hrt.2.1 (by decide)
  have hp6 : t.length ≤ 137438953472 := Nat.le_trans ht (by decide)
  have hend : Rt s.buf.1 s.buf.1.length := ⟨hrt.1, hrt.2.1, isB_all _⟩
  have e1 : mS s.buf.1 = s.buf.1 := hend.make.1
  have e2 : mA s.buf.1 (s.buf.1.length : Nat) = s.buf.1.length := hend.make.2
  obtain ⟨g, r, Rl, Rr, hA⟩ := h
  have c0 := hA.box.c 0 rfl
  have HA := Lib.hid hA
  have HBr := Lib.hid (break_callsB w Rl g s.log hA.log)
  have HS := Lib.hid hsp
  have hsz := bs_size s.buf.1
  have HW : ∀ (w' : World) (O' F' : Nat → Prop), StepF w O F w' O' F' → Spans w' := fun _ _ _ hst => spans_only hsp hst.1 hA.sp.2
  have HWs := Lib.hid HW
  have hx : insS s.buf.1 s.buf.1.length (plainL t) = s.buf.1 ++ plainL t := by unfold insS; rw [List.take_length, List.drop_length, List.append_nil]
  have Hx := Lib.hid hx
  have HE := Lib.hid hend
  by_cases hfit : fits s.buf (plainL t)
  · have HI : Hid (∀ W, Spans W → Calls Tryz.prog 53 #[.agg #[.string (bs s.buf.1), .int .i64 (s.buf.1.length : Int)], .string (bs t)] W fun e w' => e = .returned (.tuple #[.agg #[.string (bs (s.buf.1 ++ plainL t)), .int .i64 ((insB (s.buf.1, s.buf.1.length) (plainL t)).2 : Int)], .int .i64 0]) ∧ Below W.heap.size W w') := Lib.hid (fun W hS => by
      have := insert_ok s.buf.1 t (s.buf.1.length : Nat) hl6 hp6 W hS (by rw [e1]; exact hfit)
      rwa [e1, e2, hx] at this)
    have HR : Hid (Rt (insB (s.buf.1, s.buf.1.length) (plainL t)).1 (insB (s.buf.1, s.buf.1.length) (plainL t)).2) := Lib.hid (LN.insB_rt hend (plain_P t) hfit)
    rw [show (insB (s.buf.1, s.buf.1.length) (plainL t)).1 = s.buf.1 ++ plainL t from hx] at HR
    have hq1 : ((0 : Int) != 0) = false := rfl
    by_cases hp : plainL t = []
    · have hca : s.canAdd t = false := by unfold LN.canAdd; rw [decide_eq_false (show ¬ (plainL t ≠ []) from fun e => e hp), Bool.and_false]
      have had : s.add t = ⟨s.log.brk, s.ring, .none⟩ := by unfold LN.add; rw [if_neg (by rw [hca]; exact Bool.false_ne_true)]
      rw [hca, had]
      rw [hp, List.append_nil] at HI
      have hnb : (s.buf.1 == s.buf.1) = true := beq_self_eq_true _
      clear hrt hl6 hp6 hend e1 e2 hx HW hsp ht hA hfit hca had HR hp Hx
      generalize (insB (s.buf.1, s.buf.1.length) []).2 = xa at *
      go_enter Tryz.func22, Tryz.ntmps22
      go_wp2_with fail
      refine HBr.out.mono ?_
      rintro e w2 ⟨rfl, htb⟩
      obtain ⟨Rl2, F2, h2, hst2⟩ := HA.out.log_at htb ⟨HA.out.ok.log.brk, HA.out.ok.lim, HA.out.ok.rt.brk, HA.out.ok.ring, HA.out.ok.rlim⟩
      have z2 := h2.box.c 2 rfl
      have z3 := h2.box.c 3 rfl
      have z4 := h2.box.c 4 rfl
      have y2 := h2.box.free 2
      have y3 := h2.box.free 3
      have y4 := h2.box.free 4
      have hto := h2.last_to .none
      have HT := Lib.hid (StepF.tom hst2 hto)
      clear h2 hst2 hto htb HBr
      obtain ⟨W3, hW3⟩ : ∃ W3, (((w2.setCell ⟨b, 2, none⟩ (.int .i64 0)).setCell ⟨b, 3, none⟩ (.int .i64 0)).setCell ⟨b, 4, none⟩ (.int .i64 0)) = W3 := ⟨_, rfl⟩
      rw [show (((w2.setCell ⟨b, 2, none⟩ (.int .i64 (kdL .none))).setCell ⟨b, 3, none⟩ (.int .i64 (frL .none))).setCell ⟨b, 4, none⟩ (.int .i64 (toL .none))) = W3 from hW3] at HT
      go_wp2_with fail
      obtain ⟨O3, F3, h3, hst3⟩ := HT.out
      have HSP3 := Lib.hid (HWs.out _ _ _ hst3)
      refine (buf_callsL W3 O3 F3 b _ h3 HSP3.out).mono ?_
      rintro e w4 ⟨rfl, hb4⟩
      rw [show LN.buf ⟨s.log.brk, s.ring, .none⟩ = s.buf from rfl]
      have HB4 := Lib.hid hb4
      have H3 := Lib.hid h3
      have HST3 := Lib.hid hst3
      clear h3 hst3 hb4 HT
      have x5 := Bx.new w4 43 (.string ⟨#[]⟩) (.int .i64 0)
      have f50 := x5.f0
      have f51 := x5.f1
      have g50 := x5.c0
      have g51 := x5.c1
      have x5' := Bx.new w4 43 (.string (bs s.buf.1)) (.int .i64 (s.buf.2 : Int))
      have hb5 : Below W3.heap.size W3 (w4.alloc (.cells #[.string (bs s.buf.1), .int .i64 (s.buf.2 : Int)] 43)) := HB4.out.alloc HB4.out.size _
      obtain ⟨W5, hW5⟩ : ∃ W5, w4.alloc (.cells #[.string (bs s.buf.1), .int .i64 (s.buf.2 : Int)] 43) = W5 := ⟨_, rfl⟩
      rw [hW5] at x5' hb5
      have u50 := x5'.c0
      have u51 := x5'.c1
      have HX5 := Lib.hid x5'
      have HB5 := Lib.hid hb5
      clear x5 x5' hb5
      go_wp2_with fail
      refine (HI.out W5 (spans_below HSP3.out HB5.out)).mono ?_
      rintro e w6 ⟨rfl, hb6⟩
      have HB6 := Lib.hid (HB5.out.trans (hb6.mono HB5.out.size))
      have k0 := (HX5.out.below hb6).c0
      have HX6 := Lib.hid (HX5.out.below hb6)
      clear hb6 HI
      have x7 := Bx.new w6 43 (.string ⟨#[]⟩) (.int .i64 0)
      have f70 := x7.f0
      have f71 := x7.f1
      have g70 := x7.c0
      have g71 := x7.c1
      have x7' := Bx.new w6 43 (.string (bs s.buf.1)) (.int .i64 (xa : Int))
      have hb7 : Below W3.heap.size W3 (w6.alloc (.cells #[.string (bs s.buf.1), .int .i64 (xa : Int)] 43)) := HB6.out.alloc HB6.out.size _
      obtain ⟨W7, hW7⟩ : ∃ W7, w6.alloc (.cells #[.string (bs s.buf.1), .int .i64 (xa : Int)] 43) = W7 := ⟨_, rfl⟩
      rw [hW7] at x7' hb7
      have u70 := x7'.c0
      have u71 := x7'.c1
      have HX7 := Lib.hid x7'
      have HB7 := Lib.hid hb7
      clear x7 x7' hb7
      have k7 : W7.cell? ⟨w4.heap.size, 0, none⟩ = some (.string (bs s.buf.1)) := by
        rw [← hW7]
        exact (HX6.out.alloc _).c0
      go_wp2_with fail
      go_ret
      exact ⟨rfl, (StepF.to HST3.out H3.out).below objLn HB7.out⟩
    · have hca : s.canAdd t = true := by unfold LN.canAdd; rw [decide_eq_true hfit, decide_eq_true hp]; rfl
      have had : s.add t = ⟨wrG s.log (insB (s.buf.1, s.buf.1.length) (plainL t)) 0, s.ring, .none⟩ := by unfold LN.add; rw [if_pos hca]; rfl
      have hne : s.buf.1 ++ plainL t ≠ s.buf.1 := fun e => hp (by have := congrArg List.length e; rw [List.length_append] at this; exact List.eq_nil_of_length_eq_zero (by omega))
      have hins : insB (s.buf.1, s.buf.1.length) (plainL t) = (s.buf.1 ++ plainL t, (insB (s.buf.1, s.buf.1.length) (plainL t)).2) := by unfold insB; dsimp only; rw [hx]
      rw [hca, had, hins]
      clear hrt hl6 hp6 hend e1 e2 hx HW hsp ht hA hfit hca had hp Hx hins
      generalize (insB (s.buf.1, s.buf.1.length) (plainL t)).2 = xa at *
      have hne2 : decide ((s.buf.1 ++ plainL t, xa) ≠ s.buf) = true := decide_eq_true (fun e => hne (by have := congrArg Prod.fst e; exact this))
      have HNE := Lib.hid hne
      generalize s.buf.1 ++ plainL t = xs at *
      have hnb : (xs == s.buf.1) = false := beq_eq_false_iff_ne.2 HNE.out
      go_enter Tryz.func22, Tryz.ntmps22
      go_wp2_with fail
      refine HBr.out.mono ?_
      rintro e w2 ⟨rfl, htb⟩
      obtain ⟨Rl2, F2, h2, hst2⟩ := HA.out.log_at htb ⟨HA.out.ok.log.brk, HA.out.ok.lim, HA.out.ok.rt.brk, HA.out.ok.ring, HA.out.ok.rlim⟩
      have z2 := h2.box.c 2 rfl
      have z3 := h2.box.c 3 rfl
      have z4 := h2.box.c 4 rfl
      have y2 := h2.box.free 2
      have y3 := h2.box.free 3
      have y4 := h2.box.free 4
      have hto := h2.last_to .none
      have HT := Lib.hid (StepF.tom hst2 hto)
      clear h2 hst2 hto htb HBr
      obtain ⟨W3, hW3⟩ : ∃ W3, (((w2.setCell ⟨b, 2, none⟩ (.int .i64 0)).setCell ⟨b, 3, none⟩ (.int .i64 0)).setCell ⟨b, 4, none⟩ (.int .i64 0)) = W3 := ⟨_, rfl⟩
      rw [show (((w2.setCell ⟨b, 2, none⟩ (.int .i64 (kdL .none))).setCell ⟨b, 3, none⟩ (.int .i64 (frL .none))).setCell ⟨b, 4, none⟩ (.int .i64 (toL .none))) = W3 from hW3] at HT
      go_wp2_with fail
      obtain ⟨O3, F3, h3, hst3⟩ := HT.out
      have HSP3 := Lib.hid (HWs.out _ _ _ hst3)
      refine (buf_callsL W3 O3 F3 b _ h3 HSP3.out).mono ?_
      rintro e w4 ⟨rfl, hb4⟩
      rw [show LN.buf ⟨s.log.brk, s.ring, .none⟩ = s.buf from rfl]
      have HB4 := Lib.hid hb4
      have H3 := Lib.hid h3
      have HST3 := Lib.hid hst3
      clear h3 hst3 hb4 HT
      have x5 := Bx.new w4 43 (.string ⟨#[]⟩) (.int .i64 0)
      have f50 := x5.f0
      have f51 := x5.f1
      have g50 := x5.c0
      have g51 := x5.c1
      have x5' := Bx.new w4 43 (.string (bs s.buf.1)) (.int .i64 (s.buf.2 : Int))
      have hb5 : Below W3.heap.size W3 (w4.alloc (.cells #[.string (bs s.buf.1), .int .i64 (s.buf.2 : Int)] 43)) := HB4.out.alloc HB4.out.size _
      obtain ⟨W5, hW5⟩ : ∃ W5, w4.alloc (.cells #[.string (bs s.buf.1), .int .i64 (s.buf.2 : Int)] 43) = W5 := ⟨_, rfl⟩
      rw [hW5] at x5' hb5
      have u50 := x5'.c0
      have u51 := x5'.c1
      have HX5 := Lib.hid x5'
      have HB5 := Lib.hid hb5
      clear x5 x5' hb5
      go_wp2_with fail
      refine (HI.out W5 (spans_below HSP3.out HB5.out)).mono ?_
      rintro e w6 ⟨rfl, hb6⟩
      have HB6 := Lib.hid (HB5.out.trans (hb6.mono HB5.out.size))
      have k0 := (HX5.out.below hb6).c0
      have HX6 := Lib.hid (HX5.out.below hb6)
      clear hb6 HI
      have x7 := Bx.new w6 43 (.string ⟨#[]⟩) (.int .i64 0)
      have f70 := x7.f0
      have f71 := x7.f1
      have g70 := x7.c0
      have g71 := x7.c1
      have x7' := Bx.new w6 43 (.string (bs xs)) (.int .i64 (xa : Int))
      have hb7 : Below W3.heap.size W3 (w6.alloc (.cells #[.string (bs xs), .int .i64 (xa : Int)] 43)) := HB6.out.alloc HB6.out.size _
      obtain ⟨W7, hW7⟩ : ∃ W7, w6.alloc (.cells #[.string (bs xs), .int .i64 (xa : Int)] 43) = W7 := ⟨_, rfl⟩
      rw [hW7] at x7' hb7
      have u70 := x7'.c0
      have u71 := x7'.c1
      have HX7 := Lib.hid x7'
      have HB7 := Lib.hid hb7
      clear x7 x7' hb7
      have k7 : W7.cell? ⟨w4.heap.size, 0, none⟩ = some (.string (bs s.buf.1)) := by
        rw [← hW7]
        exact (HX6.out.alloc _).c0
      go_wp2_with fail
      refine (write_callsL W7 O3 F3 b _ (objLn.below H3.out HB7.out) (xs, xa) HR.out).mono ?_
      rintro e w8 ⟨rfl, ht8⟩
      rw [show LN.buf ⟨s.log.brk, s.ring, .none⟩ = s.buf from rfl, hne2]
      rw [show wrG (LN.log ⟨s.log.brk, s.ring, .none⟩) (xs, xa) 0 = wrG s.log (xs, xa) 0 from wr_brk _ _] at ht8
      have HT8 := Lib.hid (StepF.tom (StepF.trans HST3.out (StepF.below O3 F3 HB7.out)) ht8)
      clear ht8
      go_wp2_with fail
      go_ret
      exact ⟨rfl, HT8.out⟩
  · have hca : s.canAdd t = false := by unfold LN.canAdd; rw [decide_eq_false hfit, Bool.false_and]
    have had : s.add t = ⟨s.log.brk, s.ring, .none⟩ := by unfold LN.add; rw [if_neg (by rw [hca]; exact Bool.false_ne_true)]
    have HI : Hid (∀ W, Spans W → Calls Tryz.prog 53 #[.agg #[.string (bs s.buf.1), .int .i64 (s.buf.1.length : Int)], .string (bs t)] W fun e w' => e = .returned (.tuple #[.agg #[.string (bs s.buf.1), .int .i64 (s.buf.1.length : Int)], .int .i64 30]) ∧ Below W.heap.size W w') := Lib.hid (fun W hS => by
      have := insert_no s.buf.1 t (s.buf.1.length : Nat) hl6 hp6 W hS (by rw [e1]; unfold fits at hfit; omega)
      rwa [e1, e2] at this)
    have hq1 : ((30 : Int) != 0) = true := rfl
    rw [hca, had]
    clear hrt hl6 hp6 hend e1 e2 hx HW hsp ht hA hfit hca had
    go_enter Tryz.func22, Tryz.ntmps22
    go_wp2_with fail
    refine HBr.out.mono ?_
    rintro e w2 ⟨rfl, htb⟩
    obtain ⟨Rl2, F2, h2, hst2⟩ := HA.out.log_at htb ⟨HA.out.ok.log.brk, HA.out.ok.lim, HA.out.ok.rt.brk, HA.out.ok.ring, HA.out.ok.rlim⟩
    have z2 := h2.box.c 2 rfl
    have z3 := h2.box.c 3 rfl
    have z4 := h2.box.c 4 rfl
    have y2 := h2.box.free 2
    have y3 := h2.box.free 3
    have y4 := h2.box.free 4
    have hto := h2.last_to .none
    have HT := Lib.hid (StepF.tom hst2 hto)
    clear h2 hst2 hto htb HBr
    obtain ⟨W3, hW3⟩ : ∃ W3, (((w2.setCell ⟨b, 2, none⟩ (.int .i64 0)).setCell ⟨b, 3, none⟩ (.int .i64 0)).setCell ⟨b, 4, none⟩ (.int .i64 0)) = W3 := ⟨_, rfl⟩
    rw [show (((w2.setCell ⟨b, 2, none⟩ (.int .i64 (kdL .none))).setCell ⟨b, 3, none⟩ (.int .i64 (frL .none))).setCell ⟨b, 4, none⟩ (.int .i64 (toL .none))) = W3 from hW3] at HT
    go_wp2_with fail
    obtain ⟨O3, F3, h3, hst3⟩ := HT.out
    have HSP3 := Lib.hid (HWs.out _ _ _ hst3)
    refine (buf_callsL W3 O3 F3 b _ h3 HSP3.out).mono ?_
    rintro e w4 ⟨rfl, hb4⟩
    rw [show LN.buf ⟨s.log.brk, s.ring, .none⟩ = s.buf from rfl]
    have HB4 := Lib.hid hb4
    have H3 := Lib.hid h3
    have HST3 := Lib.hid hst3
    clear h3 hst3 hb4 HT
    have x5 := Bx.new w4 43 (.string ⟨#[]⟩) (.int .i64 0)
    have f50 := x5.f0
    have f51 := x5.f1
    have g50 := x5.c0
    have g51 := x5.c1
    have x5' := Bx.new w4 43 (.string (bs s.buf.1)) (.int .i64 (s.buf.2 : Int))
    have hb5 : Below W3.heap.size W3 (w4.alloc (.cells #[.string (bs s.buf.1), .int .i64 (s.buf.2 : Int)] 43)) := HB4.out.alloc HB4.out.size _
    obtain ⟨W5, hW5⟩ : ∃ W5, w4.alloc (.cells #[.string (bs s.buf.1), .int .i64 (s.buf.2 : Int)] 43) = W5 := ⟨_, rfl⟩
    rw [hW5] at x5' hb5
    have u50 := x5'.c0
    have u51 := x5'.c1
    have HX5 := Lib.hid x5'
    have HB5 := Lib.hid hb5
    clear x5 x5' hb5
    go_wp2_with fail
    refine (HI.out W5 (spans_below HSP3.out HB5.out)).mono ?_
    rintro e w6 ⟨rfl, hb6⟩
    have HB6 := Lib.hid (HB5.out.trans (hb6.mono HB5.out.size))
    have k0 := (HX5.out.below hb6).c0
    have HX6 := Lib.hid (HX5.out.below hb6)
    clear hb6 HI
    have x7 := Bx.new w6 43 (.string ⟨#[]⟩) (.int .i64 0)
    have f70 := x7.f0
    have f71 := x7.f1
    have g70 := x7.c0
    have g71 := x7.c1
    have x7' := Bx.new w6 43 (.string (bs s.buf.1)) (.int .i64 (s.buf.1.length : Int))
    have hb7 : Below W3.heap.size W3 (w6.alloc (.cells #[.string (bs s.buf.1), .int .i64 (s.buf.1.length : Int)] 43)) := HB6.out.alloc HB6.out.size _
    obtain ⟨W7, hW7⟩ : ∃ W7, w6.alloc (.cells #[.string (bs s.buf.1), .int .i64 (s.buf.1.length : Int)] 43) = W7 := ⟨_, rfl⟩
    rw [hW7] at x7' hb7
    have u70 := x7'.c0
    have u71 := x7'.c1
    have HX7 := Lib.hid x7'
    have HB7 := Lib.hid hb7
    clear x7 x7' hb7
    have k7 : W7.cell? ⟨w4.heap.size, 0, none⟩ = some (.string (bs s.buf.1)) := by
      rw [← hW7]
      exact (HX6.out.alloc _).c0
    go_wp2_with fail
    go_ret
    exact ⟨rfl, (StepF.to HST3.out H3.out).below objLn HB7.out⟩
end
end
section
open Go Go.RowKit
inductive DR where
  | mk
inductive DS where
  | mk
def dr0 : DR := .mk
def ds0 : DS := .mk
/-- A line that the law made, apart from the blocks X. -/
def LnX (w0 w : World) (X : Nat → Prop) (b : Nat) (s : LN) (_ : DR) (_ : DS) (_ C : Nat) : Prop := ∃ O F, LineL w O F b s ∧ (∀ k, O k → w0.heap.size ≤ k) ∧ Below w0.heap.size w0 w ∧ SmR s.ring C ∧
  ∀ k, X k → k < w.heap.size ∧ w0.heap.size ≤ k ∧ ¬ O k ∧ ¬ F k
abbrev LnD (w0 w : World) (b : Nat) (s : LN) (r : DR) (d : DS) (B C : Nat) : Prop := LnX w0 w (fun _ => False) b s r d B C
section
variable {P : Program} {f : Nat} {args : Array Value} {w0 w w' : World} {X : Nat → Prop} {b : Nat} {s s' : LN} {r r' : DR} {d d' : DS} {B B' C C' : Nat}
theorem LnX.bel (h : LnX w0 w X b s r d B C) : Below w0.heap.size w0 w := by
  obtain ⟨_, _, _, _, h, _⟩ := h
  exact h
theorem LnX.ok (h : LnX w0 w X b s r d B C) : s.Ok := by
  obtain ⟨_, _, h, _⟩ := h
  exact line_ok h
theorem LnX.sm (h : LnX w0 w X b s r d B C) : SmR s.ring C := by
  obtain ⟨_, _, _, _, _, h, _⟩ := h
  exact h
theorem LnX.below (h : LnX w0 w X b s r d B C) (hb : Below w.heap.size w w') : LnX w0 w' X b s r d B C := by
  obtain ⟨O, F, a1, a2, a3, a7, a8⟩ := h
  exact ⟨O, F, objLn.below a1 hb, a2, a3.trans (hb.mono a3.size), a7, fun k hk => ⟨Nat.lt_of_lt_of_le (a8 k hk).1 hb.size, (a8 k hk).2⟩⟩
theorem LnX.more (h : LnX w0 w X b s r d B C) (_ : B ≤ B') (hc : C ≤ C') : LnX w0 w X b s r d B' C' := by
  obtain ⟨O, F, a1, a2, a3, a7, a8⟩ := h
  exact ⟨O, F, a1, a2, a3, a7.mono hc, a8⟩
/-- New blocks stand apart. -/
theorem LnX.new {Y : Nat → Prop} (h : LnX w0 w X b s r d B C) (hb : Below w.heap.size w w') (hY : ∀ k, Y k → w.heap.size ≤ k ∧ k < w'.heap.size) : LnX w0 w' Y b s r d B C := by
  obtain ⟨O, F, a1, a2, a3, a7, a8⟩ := h
  refine ⟨O, F, objLn.below a1 hb, a2, a3.trans (hb.mono a3.size), a7, fun k hk => ?_⟩
  have h1 := hY k hk
  exact ⟨h1.2, Nat.le_trans a3.size h1.1, fun e => absurd (objLn.lt a1 k (.inl e)) (by omega), fun e => absurd (objLn.lt a1 k (.inr e)) (by omega)⟩
theorem LnX.add {Y : Nat → Prop} (h : LnX w0 w X b s r d B C) (hb : Below w.heap.size w w') (hY : ∀ k, Y k → w.heap.size ≤ k ∧ k < w'.heap.size) : LnX w0 w' (fun k => X k ∨ Y k) b s r d B C := by
  obtain ⟨O, F, a1, a2, a3, a7, a8⟩ := h
  refine ⟨O, F, objLn.below a1 hb, a2, a3.trans (hb.mono a3.size), a7, fun k hk => ?_⟩
  rcases hk with hk | hk
  · exact ⟨Nat.lt_of_lt_of_le (a8 k hk).1 hb.size, (a8 k hk).2⟩
  · have h1 := hY k hk
    exact ⟨h1.2, Nat.le_trans a3.size h1.1, fun e => absurd (objLn.lt a1 k (.inl e)) (by omega), fun e => absurd (objLn.lt a1 k (.inr e)) (by omega)⟩
theorem LnX.out {Y : Nat → Prop} (h : LnX w0 w X b s r d B C) (hY : ∀ k, Y k → X k) : LnX w0 w Y b s r d B C := by
  obtain ⟨O, F, a1, a2, a3, a7, a8⟩ := h
  exact ⟨O, F, a1, a2, a3, a7, fun k hk => a8 k (hY k hk)⟩
/-- What is written into the blocks X does not touch it. -/
theorem LnX.store (h : LnX w0 w X b s r d B C) {M : Nat} (hM : X M) (ho : Only (fun k => k = M) w w') : LnX w0 w' X b s r d B C := by
  obtain ⟨O, F, a1, a2, a3, a7, a8⟩ := h
  obtain ⟨x1, x2, x3, x4⟩ := a8 M hM
  refine ⟨O, F, objLn.keep a1 ho (fun k hk (e : k = M) => ?_), a2, a3.trans (ho.below a3.size fun k (e : k = M) => by omega), a7, fun k hk => ⟨Nat.lt_of_lt_of_le (a8 k hk).1 ho.size, (a8 k hk).2⟩⟩
  subst e
  exact hk.elim x3 x4
/-- A call that turns the line. -/
theorem LnX.line {E : Ending → Prop} (h : LnX w0 w X b s r d B C) (hs : SmR s'.ring C') (hc : ∀ O F, LineL w O F b s → Calls P f args w fun e w' => E e ∧ ToLn w O F w' b s') :
    Calls P f args w fun e w' => E e ∧ LnX w0 w' X b s' r d B C' ∧ Only (fun k => ¬ X k) w w' := by
  obtain ⟨O, F, a1, a2, a3, a7, a8⟩ := h
  refine (hc O F a1).mono ?_
  rintro e w' ⟨he, O', F', b1, b2, b3, b4⟩
  refine ⟨he, ⟨O', F', b1, fun k hk => (b3 k hk).elim (a2 k) (fun h => Nat.le_trans a3.size h), a3.trans (b2.below a3.size a2), hs, fun k hk => ?_⟩, b2.mono fun k hk => .inl fun hx => (a8 k hx).2.2.1 hk⟩
  obtain ⟨x1, x2, x3, x4⟩ := a8 k hk
  exact ⟨Nat.lt_of_lt_of_le x1 b2.size, x2, fun e => (b3 k e).elim x3 (fun h => by omega), fun e => (b4 k e).elim x4 (fun h => by omega)⟩
/-- The line, and a copy of it beside. -/
def TwX (w0 w : World) (X : Nat → Prop) (b : Nat) (s : LN) (b' : Nat) (s' : LN) (_ : DR) (_ : DS) (_ C : Nat) : Prop := ∃ O F O' F', LineL w O F b s ∧ LineL w O' F' b' s' ∧ (∀ k, O' k ∨ F' k → ¬ O k) ∧ (∀ k, O k → w0.heap.size ≤ k) ∧ (∀ k, O' k → w0.heap.size ≤ k) ∧ Below w0.heap.size w0 w ∧
  SmR s'.ring C ∧ ∀ k, X k → k < w.heap.size ∧ w0.heap.size ≤ k ∧ ¬ O k ∧ ¬ O' k ∧ ¬ F' k
theorem TwX.snd {b' : Nat} (h : TwX w0 w X b s b' s' r d B C) : LnX w0 w X b' s' r d B C := by
  obtain ⟨O, F, O', F', a1, a2, a3, a4, a5, a6, a10, a11⟩ := h
  exact ⟨O', F', a2, a5, a6, a10, fun k hk => ⟨(a11 k hk).1, (a11 k hk).2.1, (a11 k hk).2.2.2⟩⟩
theorem TwX.bel {b' : Nat} (h : TwX w0 w X b s b' s' r d B C) : Below w0.heap.size w0 w := h.snd.bel
theorem LnX.copy {E : Nat → Ending → Prop} (h : LnX w0 w X b s r d B C) (hc : ∀ O F, LineL w O F b s → Calls P f args w fun e w' => ∃ b', E b' e ∧ CopF LineL w F w' b' s) :
    Calls P f args w fun e w' => ∃ b', E b' e ∧ TwX w0 w' X b s b' s r d B C ∧ Below w.heap.size w w' := by
  obtain ⟨O, F, a1, a2, a3, a7, a8⟩ := h
  refine (hc O F a1).mono ?_
  rintro e w' ⟨b', he, O', F', b1, b2, b3, b4⟩
  have hlt := objLn.lt a1
  refine ⟨b', he, ⟨O, F, O', F', objLn.below a1 b4, b1, fun k hk ho => ?_, a2, fun k hk => Nat.le_trans a3.size (b2 k hk), a3.trans (b4.mono a3.size), a7, fun k hk => ?_⟩, b4⟩
  · have h1 := hlt k (.inl ho)
    rcases hk with h2 | h2
    · have := b2 k h2; omega
    · rcases b3 k h2 with h3 | h3
      · exact objLn.dis a1 k ho h3
      · omega
  · obtain ⟨x1, x2, x3, x4⟩ := a8 k hk
    exact ⟨Nat.lt_of_lt_of_le x1 b4.size, x2, x3, fun h => by have := b2 k h; omega, fun h => (b3 k h).elim x4 (fun h => by omega)⟩
theorem TwX.line {E : Ending → Prop} {b' : Nat} {s2 : LN} (h : TwX w0 w X b s b' s' r d B C) (hc : ∀ O F, LineL w O F b s → Calls P f args w fun e w' => E e ∧ ToLn w O F w' b s2) :
    Calls P f args w fun e w' => E e ∧ TwX w0 w' X b s2 b' s' r d B C ∧ Only (fun k => ¬ X k) w w' := by
  obtain ⟨O, F, O', F', a1, a2, a3, a4, a5, a6, a10, a11⟩ := h
  refine (hc O F a1).mono ?_
  rintro e w' ⟨he, O2, F2, b1, b2, b3, b4⟩
  refine ⟨he, ⟨O2, F2, O', F', b1, objLn.keep a2 b2 a3, fun k hk h => ?_, fun k hk => (b3 k hk).elim (a4 k) (fun h => Nat.le_trans a6.size h), a5, a6.trans (b2.below a6.size a4), a10, fun k hk => ?_⟩, b2.mono fun k hk => .inl fun hx => (a11 k hx).2.2.1 hk⟩
  · rcases b3 k h with h1 | h1
    · exact a3 k hk h1
    · have := objLn.lt a2 k hk; omega
  · obtain ⟨x1, x2, x3, x4⟩ := a11 k hk
    exact ⟨Nat.lt_of_lt_of_le x1 b2.size, x2, fun e => (b3 k e).elim x3 (fun h => by omega), x4⟩
theorem TwX.below {b' : Nat} (h : TwX w0 w X b s b' s' r d B C) (hb : Below w.heap.size w w') : TwX w0 w' X b s b' s' r d B C := by
  obtain ⟨O, F, O', F', a1, a2, a3, a4, a5, a6, a10, a11⟩ := h
  exact ⟨O, F, O', F', objLn.below a1 hb, objLn.below a2 hb, a3, a4, a5, a6.trans (hb.mono a6.size), a10, fun k hk => ⟨Nat.lt_of_lt_of_le (a11 k hk).1 hb.size, (a11 k hk).2⟩⟩
theorem LnX.rd {E : Ending → World → Prop} (h : LnX w0 w X b s r d B C) (hc : ∀ O F, LineL w O F b s → Calls P f args w fun e w' => E e w' ∧ Below w.heap.size w w') : Calls P f args w fun e w' => E e w' ∧ LnX w0 w' X b s r d B C ∧ Below w.heap.size w w' := by
  obtain ⟨O, F, a1, a2⟩ := id h
  refine (hc O F a1).mono ?_
  rintro e w' ⟨he, hb⟩
  exact ⟨he, h.below hb, hb⟩
theorem TwX.rd {E : Ending → World → Prop} {b' : Nat} (h : TwX w0 w X b s b' s' r d B C) (hc : ∀ O F, LineL w O F b s → Calls P f args w fun e w' => E e w' ∧ Below w.heap.size w w') : Calls P f args w fun e w' => E e w' ∧ TwX w0 w' X b s b' s' r d B C ∧ Below w.heap.size w w' := by
  obtain ⟨O, F, O', F', a1, a2⟩ := id h
  refine (hc O F a1).mono ?_
  rintro e w' ⟨he, hb⟩
  exact ⟨he, h.below hb, hb⟩
theorem LnX.start (h : InLn w0 w b s) (hs : SmR s.ring C) : LnD w0 w b s dr0 ds0 C C := by
  obtain ⟨O, F, a1, a2, a3⟩ := h
  exact ⟨O, F, a1, a2, a3, hs, fun _ h => h.elim⟩
end
end
section
open Go Go.RowKit
set_option maxRecDepth 100000
theorem only_iter (w : World) (k : Nat) (s : ByteArray) (p : Nat) : Only (fun i => i = k) w (w.iterAt k s p) := ⟨rfl, rfl, rfl, Nat.le_of_eq (Lib.iterAt_size _ _ _ _).symm, fun _ _ hn => Lib.iterAt_other _ _ _ _ _ hn⟩
def alF (n : Nat) : LN := (([97, 98, 99] : List UInt8).take n).foldl (fun s c => s.key 1 [c]) LN.new
theorem alF_step (n : Nat) (c : UInt8) (h : ([97, 98, 99] : List UInt8)[n]? = some c) : (alF n).key 1 [c] = alF (n + 1) := by
  match n, h with
  | 0, h => simp at h; subst h; rfl
  | 1, h => simp at h; subst h; rfl
  | 2, h => simp at h; subst h; rfl
theorem alF_dec (n : Nat) (h : n < 3) : ∃ c : UInt8, ([97, 98, 99] : List UInt8)[n]? = some c ∧ Utf8.decode ({ data := #[97, 98, 99] } : ByteArray) n = (c.toNat, 1) ∧ Utf8.encode (c.toNat : Int) = bs [c] := by
  match n, h with
  | 0, _ => exact ⟨97, rfl, by decide +kernel, by decide +kernel⟩
  | 1, _ => exact ⟨98, rfl, by decide +kernel, by decide +kernel⟩
  | 2, _ => exact ⟨99, rfl, by decide +kernel, by decide +kernel⟩
theorem BxA.drw {w : World} {g : Nat} {t : TypeId} {vs : List Value} (h : BxA w g t vs) : BxA w.drew g t vs := h.below (Below.refl _ w).drew
theorem field_buf0 (a b : Value) : ∀ W : World, (Instr.field 43 (.agg #[a, b]) 0).run Tryz.prog W = .ok a W := fun W => by kernel_rfl
theorem eqT (x : ByteArray) (n : Int) (W : World) : (binOp .eql 43 (.agg #[.string x, .int .i64 n]) (.agg #[.string x, .int .i64 n])).run Tryz.prog W = .ok (.bool true) W := by
  have h1 := Tryz.underlying43
  have h2 := Tryz.underlying9
  have h3 := Tryz.underlying3
  rw [run_eql_struct]
  go_simp
set_option maxHeartbeats 4000000 in
theorem lalive_calls (w : World) (hsp : Spans w) : Calls Tryz.prog 8 #[] w fun e w' => e = .returned (.bool true) ∧ Below w.heap.size w w' := by
  have HS := Lib.hid hsp
  clear hsp
  go_enter Tryz.func8, Tryz.ntmps8
  go_wp2_with fail
  refine (new_callsL w HS.out).mono ?_
  rintro e w1 ⟨b, rfl, hi⟩
  have HI := Lib.hid (LnX.start hi (C := 0) (LN.new_sm 0))
  clear hi
  go_wp2_with fail
  go_loopw [3] (fun _ wr => ∃ pos, pos ≤ 3 ∧ wr.heap[w1.heap.size]? = some (.stringIter ({ data := #[97, 98, 99] } : ByteArray) pos) ∧ Hid (LnX w wr (fun k => k = w1.heap.size) b (alF pos) dr0 ds0 0 (600 * pos))) (fun _ wr => 3 - wr.iterPos w1.heap.size)
  case atStart => exact ⟨0, Nat.zero_le _, World.iter_heap w1 _ 0, Lib.hid (HI.out.new (below_iter w1 _ 0) (fun k (hk : k = w1.heap.size) => ⟨by omega, by rw [hk]; exact (Array.getElem?_eq_some_iff.1 (World.iter_heap w1 ({ data := #[97, 98, 99] } : ByteArray) 0)).1⟩))⟩
  case round =>
    obtain ⟨pos, hle, hit, hX⟩ := hrel
    by_cases hp : pos < 3
    · obtain ⟨c, hc, hd, he⟩ := alF_dec pos hp
      have hnx : ∀ ty, (Instr.next (.pointer (some ⟨w1.heap.size, 0, none⟩)) true ty).run Tryz.prog wr = _ := fun ty => Lib.run_next_any_at wr w1.heap.size ({ data := #[97, 98, 99] } : ByteArray) pos ty hit hp
      rw [hd] at hnx
      have H2 := Lib.hid (hX.out.store (M := w1.heap.size) rfl (only_iter wr w1.heap.size ({ data := #[97, 98, 99] } : ByteArray) (pos + 1)))
      have hit2 := Lib.iterAt_heap wr w1.heap.size ({ data := #[97, 98, 99] } : ByteArray) pos (pos + 1) hit
      have Hit := Lib.hid hit
      have Hit2 := Lib.hid hit2
      have Hc := Lib.hid hc
      have He := Lib.hid he
      clear hit hit2 hX hc he hd
      go_wp2_with fail
      rw [He.out]
      refine (H2.out.line (C' := 600 * (pos + 1)) (by rw [show 600 * (pos + 1) = 600 * pos + 600 by omega]; exact LN.key_sm H2.out.ok H2.out.sm 1 [c]) (fun O F hl => key_callsL _ O F b _ hl (spans_below HS.out H2.out.bel) 1 [c] (by simp) (H2.out.sm.mono (by omega)))).mono ?_
      rintro e w2 ⟨rfl, hx, ho⟩
      rw [alF_step pos c Hc.out] at hx
      have hit3 : w2.heap[w1.heap.size]? = some (.stringIter ({ data := #[97, 98, 99] } : ByteArray) (pos + 1)) := (ho.block _ (by exact (Array.getElem?_eq_some_iff.1 Hit2.out).1) (fun h => h rfl)).trans Hit2.out
      have HX := Lib.hid hx
      have Hit3 := Lib.hid hit3
      clear hx hit3 ho
      go_wp2_with fail
      go_roundw
      case rel => exact ⟨pos + 1, by omega, Hit3.out, HX⟩
      case measure =>
        rw [iterPos_of Hit3.out, iterPos_of Hit.out]
        omega
    · have hnx : ∀ ty, (Instr.next (.pointer (some ⟨w1.heap.size, 0, none⟩)) true ty).run Tryz.prog wr = _ := fun ty => Lib.run_next_end_at wr w1.heap.size ({ data := #[97, 98, 99] } : ByteArray) pos ty hit hp
      obtain rfl : pos = 3 := by omega
      have HX : Hid (LnX w wr (fun k => k = w1.heap.size) b alA dr0 ds0 0 1800) := hX
      clear hX
      go_wp2_with fail
      refine (HX.out.line (C' := 2400) (LN.key_sm HX.out.ok HX.out.sm 13 []) (fun O F hl => key_callsL wr O F b _ hl (spans_below HS.out HX.out.bel) 13 [] (by simp) (HX.out.sm.mono (by omega)))).mono ?_
      rintro e w3 ⟨rfl, hx, _⟩
      rw [show LN.known 13 = true from rfl]
      clear HX
      have HX : Hid (LnX w w3 (fun k => k = w1.heap.size) b alB dr0 ds0 0 2400) := Lib.hid hx
      clear hx
      go_wp2_with fail
      refine (HX.out.line (C' := 3000) (LN.key_sm HX.out.ok HX.out.sm 0 []) (fun O F hl => key_callsL w3 O F b _ hl (spans_below HS.out HX.out.bel) 0 [] (by simp) (HX.out.sm.mono (by omega)))).mono ?_
      rintro e w4 ⟨rfl, hx, _⟩
      rw [show LN.known 0 = false from rfl]
      clear HX
      have HX : Hid (LnX w w4 (fun k => k = w1.heap.size) b alC dr0 ds0 0 3000) := Lib.hid hx
      clear hx
      go_wp2_with fail
      have Hk := Lib.hid HX.out.ok
      have Hm := Lib.hid HX.out.sm
      refine (HX.out.copy (E := fun b' e => e = .returned (.pointer (some ⟨b', 0, none⟩))) (fun O F hl => copy_callsL w4 O F b _ hl (spans_below HS.out HX.out.bel))).mono ?_
      rintro e w5 ⟨b', rfl, hx, _⟩
      have HT := Lib.hid hx
      clear hx HX
      go_wp2_with fail
      refine (HT.out.line (fun O F hl => key_callsL w5 O F b _ hl (spans_below HS.out HT.out.bel) 15 [] (by simp) (Hm.out.mono (by omega)))).mono ?_
      rintro e w6 ⟨rfl, hx, _⟩
      clear HT
      have HT : Hid (TwX w w6 (fun k => k = w1.heap.size) b (alC.key 15 []) b' alC dr0 ds0 0 3000) := Lib.hid hx
      clear hx
      go_wp2_with fail
      refine (HT.out.line (fun O F hl => key_callsL w6 O F b _ hl (spans_below HS.out HT.out.bel) 15 [] (by simp) ((LN.key_sm Hk.out Hm.out 15 []).mono (by omega)))).mono ?_
      rintro e w7 ⟨rfl, hx, _⟩
      clear HT
      have HT : Hid (TwX w w7 (fun k => k = w1.heap.size) b alD b' alC dr0 ds0 0 3000) := Lib.hid hx
      clear hx
      go_wp2_with fail
      have hu := fun O F hl => undos_callsL w7 O F b alD hl (spans_below HS.out HT.out.bel)
      rw [alD_undos.1, alD_undos.2] at hu
      refine (HT.out.rd hu).mono ?_
      rintro e w8 ⟨rfl, hx, _⟩
      clear HT hu
      have HT := Lib.hid hx
      clear hx
      go_wp2_with fail
      have hq := fun O F hl => buf_callsL w8 O F b alD hl (spans_below HS.out HT.out.bel)
      rw [alD_buf] at hq
      refine (HT.out.rd hq).mono ?_
      rintro e w9 ⟨rfl, hx, _⟩
      clear HT hq
      have HT := Lib.hid hx
      have q1 := eqT ({ data := #[97, 98, 99, 97, 98, 99] } : ByteArray) 6
      clear hx
      rw [show bs ([97, 98, 99, 97, 98, 99], 6).1 = ({ data := #[97, 98, 99, 97, 98, 99] } : ByteArray) from rfl]
      go_wp2_with fail
      refine (HT.out.rd (E := fun e w' => ∃ A c, e = .returned (.slice A alD.ring.l.length c) ∧ RdV Value.string w' A alD.ring.l) (fun O F hl => (kills_callsL w9 O F b alD hl (spans_below HS.out HT.out.bel)).mono (fun _ _ hh => by obtain ⟨A, c, e1, e2, e3⟩ := hh; exact ⟨⟨A, c, e1, e2⟩, e3⟩))).mono ?_
      rintro e w10 ⟨⟨A, c, rfl, _⟩, hx, _⟩
      clear HT
      have HT := Lib.hid hx
      clear hx
      rw [show alD.ring.l.length = 1 by rw [alD_kills]; rfl]
      go_wp2_with fail
      refine (HT.out.rd (E := fun e w' => ∃ A c, e = .returned (.slice A alD.ring.l.length c) ∧ RdV Value.string w' A alD.ring.l) (fun O F hl => (kills_callsL w10 O F b alD hl (spans_below HS.out HT.out.bel)).mono (fun _ _ hh => by obtain ⟨A, c, e1, e2, e3⟩ := hh; exact ⟨⟨A, c, e1, e2⟩, e3⟩))).mono ?_
      rintro e w11 ⟨⟨A, c, rfl, hr⟩, hx, _⟩
      clear HT
      have HX := Lib.hid hx.snd
      clear hx
      rw [alD_kills] at hr
      obtain ⟨g, o, rfl, _, hcell⟩ := hr (by simp)
      have hc0 : w11.cell? ⟨g, o, none⟩ = some (.string ({ data := #[97, 98, 99] } : ByteArray)) := hcell 0 _ rfl
      clear hcell hr
      rw [show alD.ring.l.length = 1 by rw [alD_kills]; rfl]
      go_wp2_with fail
      have hq := fun O F hl => buf_callsL w11 O F b' alC hl (spans_below HS.out HX.out.bel)
      rw [alC_buf] at hq
      refine (HX.out.rd hq).mono ?_
      rintro e w12 ⟨rfl, hx, _⟩
      clear HX hq hc0
      have HX := Lib.hid hx
      have q2 := eqT ({ data := #[] } : ByteArray) 0
      clear hx
      rw [show bs (([] : List UInt8), 0).1 = ({ data := #[] } : ByteArray) from rfl]
      go_wp2_with fail
      refine (HX.out.line (C' := 3000) (LN.add_sm HX.out.sm [120]) (fun O F hl => add_callsL w12 O F b' _ hl (spans_below HS.out HX.out.bel) [120] (by simp) (HX.out.sm.mono (by omega)))).mono ?_
      rintro e w13 ⟨rfl, hx, _⟩
      rw [alC_add.1]
      clear HX
      have HX : Hid (LnX w w13 (fun k => k = w1.heap.size) b' alE dr0 ds0 0 3000) := Lib.hid hx
      clear hx
      go_wp2_with fail
      have hq := fun O F hl => buf_callsL w13 O F b' alE hl (spans_below HS.out HX.out.bel)
      rw [show alE.buf = ([120], 1) from alC_add.2] at hq
      refine (HX.out.rd hq).mono ?_
      rintro e w14 ⟨rfl, hx, _⟩
      clear HX hq
      have HX := Lib.hid hx
      clear hx
      rw [show bs ([(120 : UInt8)], 1).1 = ({ data := #[120] } : ByteArray) from rfl]
      have q4 := field_buf0 (.string ({ data := #[120] } : ByteArray)) (.int .i64 1)
      go_wp2_with fail
      refine (HX.out.line (C' := 3000) (LN.change_sm HX.out.sm [121, 122] 1) (fun O F hl => change_callsL w14 O F b' _ hl (spans_below HS.out HX.out.bel) 1 [121, 122] (by simp) (HX.out.sm.mono (by omega)))).mono ?_
      rintro e w15 ⟨rfl, hx, _⟩
      rw [decide_eq_true alE_change.1]
      clear HX
      have HX := Lib.hid hx
      clear hx
      go_wp2_with fail
      have hq := fun O F hl => buf_callsL w15 O F b' (alE.change [121, 122] 1) hl (spans_below HS.out HX.out.bel)
      rw [alE_change.2] at hq
      refine (HX.out.rd hq).mono ?_
      rintro e w16 ⟨rfl, hx, _⟩
      clear HX hq
      have HX := Lib.hid hx
      have q3 := eqT ({ data := #[121, 122] } : ByteArray) 1
      clear hx
      rw [show bs ([(121 : UInt8), 122], 1).1 = ({ data := #[121, 122] } : ByteArray) from rfl]
      go_wp2_with fail
      go_ret
      exact ⟨rfl, HX.out.bel⟩
end
section
open Go Go.RowKit
set_option maxHeartbeats 2000000 in
theorem rmake_calls (l : List UInt8) (n : Int) (hl : l.length ≤ 137438953472) (w : World) :
    Calls Tryz.prog 20 #[.string (bs l), .int .i64 n] w fun e w' => e = .returned (.agg #[.string (bs (mS l)), .int .i64 (mA l n : Int)]) ∧ Below w.heap.size w w' := by
  have k0 : Below w.heap.size w (w.alloc (.cells #[.string ⟨#[]⟩, .int .i64 0] 28)) := (Below.refl _ w).alloc (Nat.le_refl _) _
  have hb0 := Bx.new w 28 (.string ⟨#[]⟩) (.int .i64 0)
  have HP := Lib.hid (fun W => rplain_calls l hl W)
  have hpl := plain_length l
  have hbl := backL_le (plainL l) 600
  have hms := mS_len l
  have HB1 := Lib.hid (fun W => rback_calls (plainL l) 600 (by omega) W)
  have HB2 := Lib.hid (fun W => rback_calls (mS l) n (by omega) W)
  have hex : (bs (plainL l)).extract 0 (backL (plainL l) 600) = bs (mS l) := bs_take _ _
  have HmA : Hid (backL (mS l) n = mA l n) := Lib.hid rfl
  have Hsh := Lib.hid (mS_short l)
  have hsz := bs_size (plainL l)
  generalize backL (mS l) n = a at *
  generalize mA l n = a' at *
  obtain rfl := HmA.out
  generalize backL (plainL l) 600 = b at *
  generalize mS l = m at *
  generalize plainL l = p at *
  by_cases h6 : 600 < p.length
  · have hd : decide ((600 : Int) < (p.length : Int)) = true := decide_eq_true (by omega)
    go_enter Tryz.func20, Tryz.ntmps20
    go_wp2_with fail
    refine (HP.out _).mono ?_
    rintro e w1 ⟨rfl, hb1⟩
    have k1 := k0.trans (hb1.mono k0.size)
    have g1 := hb0.below hb1
    clear hb1
    go_wp2_with fail
    refine (HB1.out _).mono ?_
    rintro e w2 ⟨rfl, hb2⟩
    have k2 := k1.trans (hb2.mono k1.size)
    have g2 := g1.below hb2
    clear hb2 g1 k1
    go_wp2_with fail
    refine (HB2.out _).mono ?_
    rintro e w3 ⟨rfl, hb3⟩
    have k3 := k2.trans (hb3.mono k2.size)
    have g3 := g2.below hb3
    have c0 := g3.c0
    have c1 := g3.c1
    have f0 := g3.f0
    have f1 := g3.f1
    have G3 := Lib.hid g3
    have K3 := Lib.hid k3
    clear hb3 g2 k2 g3 k3
    go_wp2
    refine bodyPost_ret (results_bx rfl _ _ w.heap.size (.string (bs m)) (.int .i64 (a : Int)) 28 rfl ((G3.out.set0 _).set1 _) Tryz.underlying28 (sizeRBuf _)) rfl ?_
    exact ⟨rfl, (K3.out.setCell (p := ⟨w.heap.size, 0, none⟩) (Nat.le_refl _) _).setCell (p := ⟨w.heap.size, 1, none⟩) (Nat.le_refl _) _⟩
  · have hd : decide ((600 : Int) < (p.length : Int)) = false := decide_eq_false (by omega)
    obtain rfl := Hsh.out (by omega)
    clear Hsh hex
    go_enter Tryz.func20, Tryz.ntmps20
    go_wp2_with fail
    refine (HP.out _).mono ?_
    rintro e w1 ⟨rfl, hb1⟩
    have k1 := k0.trans (hb1.mono k0.size)
    have g1 := hb0.below hb1
    clear hb1
    go_wp2_with fail
    refine (HB2.out _).mono ?_
    rintro e w3 ⟨rfl, hb3⟩
    have k3 := k1.trans (hb3.mono k1.size)
    have g3 := g1.below hb3
    have c0 := g3.c0
    have c1 := g3.c1
    have f0 := g3.f0
    have f1 := g3.f1
    have G3 := Lib.hid g3
    have K3 := Lib.hid k3
    clear hb3 g1 k1 g3 k3
    go_wp2
    refine bodyPost_ret (results_bx rfl _ _ w.heap.size (.string (bs _)) (.int .i64 (a : Int)) 28 rfl ((G3.out.set0 _).set1 _) Tryz.underlying28 (sizeRBuf _)) rfl ?_
    exact ⟨rfl, (K3.out.setCell (p := ⟨w.heap.size, 0, none⟩) (Nat.le_refl _) _).setCell (p := ⟨w.heap.size, 1, none⟩) (Nat.le_refl _) _⟩
end
end Go.Proofs.YtoaponaljkhlfaaGreatDoor
